/- Rows of ways that the model's search owns: each way's rides lie in a block of their own. -/
import Derived.Test.YtfoccmhmgdengaaMathPick
import Derived.Deep.AppendLies
namespace Go.Proofs.Ytfoccmhmgdengaa
namespace Rd
open Go.ChangeShapes Go.WideShapes Go.ChangeAt Go.RowKit
open Pk (new_below join_below cell_at heap_new frozen_at lt_of kept heap_old)
set_option linter.unusedSimpArgs false
set_option linter.unusedVariables false

theorem add_plain (b o i : Nat) : Addr.add ⟨b, o, none⟩ i = ⟨b, o + i, none⟩ := by simp [Addr.add]

/-- A way of the model: where its rides lie, and itself. -/
structure Pw where
  a : Option Addr
  cap : Nat
  o : Wy

abbrev Pw.r (p : Pw) : Value := .slice p.a p.o.p.length p.cap
abbrev Pw.v (p : Pw) : Value := .agg #[p.r, .int .i64 p.o.s, .int .i64 p.o.z]

def wc (ps : List Pw) : List Value := ps.flatMap fun p => [p.r, .int .i64 p.o.s, .int .i64 p.o.z]

theorem wc_length (ps : List Pw) : (wc ps).length = ps.length * 3 := by
  induction ps with
  | nil => rfl
  | cons p r ih => simp [wc] at ih ⊢; omega

theorem wc_append (ps qs : List Pw) : wc (ps ++ qs) = wc ps ++ wc qs := by simp [wc]

theorem wc_at : ∀ (ps : List Pw) (i : Nat) (h : i < ps.length), (wc ps)[i * 3]? = some ps[i].r ∧ (wc ps)[i * 3 + 1]? = some (.int .i64 ps[i].o.s) ∧ (wc ps)[i * 3 + 2]? = some (.int .i64 ps[i].o.z)
  | p :: r, 0, _ => by simp [wc]
  | p :: r, i + 1, h => by
    have := wc_at r i (by simpa using h)
    have e1 : (i + 1) * 3 = i * 3 + 3 := by omega
    have e2 : (i + 1) * 3 + 1 = i * 3 + 1 + 3 := by omega
    have e3 : (i + 1) * 3 + 2 = i * 3 + 2 + 3 := by omega
    simp only [wc, List.flatMap_cons, e1, e2, e3, List.getElem_cons_succ] at this ⊢
    exact this

theorem wc_set : ∀ (ps : List Pw) (i : Nat) (q : Pw) (h : i < ps.length), wc (ps.set i q) = (((wc ps).set (i * 3) q.r).set (i * 3 + 1) (.int .i64 q.o.s)).set (i * 3 + 2) (.int .i64 q.o.z)
  | p :: r, 0, q, _ => by simp [wc]
  | p :: r, i + 1, q, h => by
    have := wc_set r i q (by simpa using h)
    have e1 : (i + 1) * 3 = i * 3 + 1 + 1 + 1 := by omega
    have e2 : (i + 1) * 3 + 1 = i * 3 + 1 + 1 + 1 + 1 := by omega
    have e3 : (i + 1) * 3 + 2 = i * 3 + 2 + 1 + 1 + 1 := by omega
    simp only [wc, List.flatMap_cons, List.set_cons_succ, e1, e2, e3, List.cons_append, List.nil_append] at this ⊢
    rw [this]

theorem wc_one (ps : List Pw) : ∀ u ∈ wc ps, u.oneCell' = true := by
  intro u hu
  obtain ⟨p, -, h⟩ := List.mem_flatMap.1 hu
  simp at h
  rcases h with rfl | rfl | rfl <;> rfl

theorem own_cells {w : World} {base e size g n cap : Nat} {xs : List Value} (h : w.ownsRow base e size (.slice (some ⟨g, 0, none⟩) n cap) n xs) (j : Nat) (u : Value) (hu : xs[j]? = some u) : w.cell? ⟨g, j, none⟩ = some u ∧ w.frozen? ⟨g, j, none⟩ = false := by
  obtain ⟨hl, h2⟩ := h
  rcases h2 with ⟨hv, -⟩ | ⟨g', cap', cur, hv, hb, hh, h1, h3, h4, h5⟩
  · cases hv
  · simp only [Value.slice.injEq, Option.some.injEq, Addr.mk.injEq] at hv
    obtain ⟨⟨rfl, -⟩, -, rfl⟩ := hv
    refine ⟨?_, frozen_at hh j⟩
    rw [cell_at hh]
    have hj : j < xs.length := (List.getElem?_eq_some_iff.1 hu).1
    rw [← h5, List.getElem?_take, if_pos (by omega), Array.getElem?_toList] at hu
    exact hu

theorem own_setn {w : World} {base e g n cap i size : Nat} {xs : List Value} (h : w.ownsRow base e size (.slice (some ⟨g, 0, none⟩) n cap) n xs) (u : Value) : (w.setCell ⟨g, i, none⟩ u).ownsRow base e size (.slice (some ⟨g, 0, none⟩) n cap) n (xs.set i u) := by
  obtain ⟨hl, h | ⟨g', cap', cur, he, hb, hc, h1, h2, h3, h4⟩⟩ := h
  · exact absurd h.1 (by simp)
  · simp only [Value.slice.injEq, Option.some.injEq, Addr.mk.injEq] at he
    obtain ⟨⟨rfl, -⟩, -, rfl⟩ := he
    refine ⟨by rw [List.length_set]; exact hl, Or.inr ⟨g, cap, cur.setIfInBounds i u, rfl, hb, ?_, h1, h2, by rw [Array.size_setIfInBounds]; exact h3, ?_⟩⟩
    · unfold World.setCell
      simp [Array.getElem?_modify, hc]
    · rw [Array.toList_setIfInBounds, ← h4, List.take_set]

theorem own_kept {w w1 : World} {base e size n : Nat} {v : Value} {xs : List Value} {row : Option Nat} (h : w.ownsRow base e size v n xs) (G : w.grownBy w1 row) (hne : ∀ g, v.ownBlock = some g → row ≠ some g) : w1.ownsRow base e size v n xs := by
  obtain ⟨hl, h2⟩ := h
  refine ⟨hl, ?_⟩
  rcases h2 with h2 | ⟨g, cap, cur, hv, hb, hh, hr⟩
  · exact Or.inl h2
  · refine Or.inr ⟨g, cap, cur, hv, hb, ?_, hr⟩
    rw [G.block g (lt_of hh) (fun e => hne g (by rw [hv]; rfl) e.symm)]
    exact hh

def rcells (l : List Ri) : List Value := l.flatMap fun r => [.int .i64 r.tr, .int .i64 r.dy, .int .i64 r.fr, .int .i64 r.to]

theorem rcells_length (l : List Ri) : (rcells l).length = l.length * 4 := by
  induction l with
  | nil => rfl
  | cons p r ih => simp [rcells] at ih ⊢; omega

theorem rcells_append (p q : List Ri) : rcells (p ++ q) = rcells p ++ rcells q := by simp [rcells]

theorem rcells_one (l : List Ri) : ∀ u ∈ rcells l, u.oneCell' = true := by
  intro u hu
  obtain ⟨p, -, h⟩ := List.mem_flatMap.1 hu
  simp at h
  rcases h with rfl | rfl | rfl | rfl <;> rfl

theorem rcells_at : ∀ (l : List Ri) (i : Nat) (h : i < l.length), (rcells l)[i * 4]? = some (.int .i64 l[i].tr) ∧ (rcells l)[i * 4 + 1]? = some (.int .i64 l[i].dy) ∧ (rcells l)[i * 4 + 2]? = some (.int .i64 l[i].fr) ∧ (rcells l)[i * 4 + 3]? = some (.int .i64 l[i].to)
  | p :: r, 0, _ => by simp [rcells]
  | p :: r, i + 1, h => by
    have := rcells_at r i (by simpa using h)
    have e1 : (i + 1) * 4 = i * 4 + 4 := by omega
    have e2 : (i + 1) * 4 + 1 = i * 4 + 1 + 4 := by omega
    have e3 : (i + 1) * 4 + 2 = i * 4 + 2 + 4 := by omega
    have e4 : (i + 1) * 4 + 3 = i * 4 + 3 + 4 := by omega
    simp only [rcells, List.flatMap_cons, e1, e2, e3, e4, List.getElem_cons_succ] at this ⊢
    exact this

/-- Rides in a row of the call's own, of their kind, from base on. -/
def RideAt (w : World) (base : Nat) (a : Option Addr) (c : Nat) (l : List Ri) : Prop := w.ownsRow base 37 4 (.slice a l.length c) l.length (rcells l)

/-- Where they lie. -/
theorem RideAt.old {w : World} {base c : Nat} {a : Option Addr} {l : List Ri} (O : RideAt w base a c l) : l.length = 0 ∨ ∃ (g : Nat) (cs : Array Value), a = some ⟨g, 0, none⟩ ∧ base ≤ g ∧ w.heap[g]? = some (Obj.cells cs 37 (0, 0)) ∧ Rides w (some ⟨g, 0, none⟩) l := by
  by_cases h0 : l.length = 0
  · exact Or.inl h0
  · obtain ⟨-, q⟩ := id O
    rcases q with ⟨q, -⟩ | ⟨g, cap, cur, q, hb, hh, -⟩
    · simp only [Value.slice.injEq] at q
      omega
    · simp only [Value.slice.injEq, Option.some.injEq] at q
      obtain ⟨rfl, -, rfl⟩ := q
      refine Or.inr ⟨g, cur, rfl, hb, hh, Or.inr ⟨g, 0, rfl, lt_of hh, fun i hi => ?_⟩⟩
      rw [Nat.zero_add]
      obtain ⟨d0, d1, d2, d3⟩ := rcells_at l i hi
      exact ⟨(own_cells O _ _ d0).1, (own_cells O _ _ d1).1, (own_cells O _ _ d2).1, (own_cells O _ _ d3).1⟩

theorem RideAt.keep {w w1 : World} {base c : Nat} {a : Option Addr} {l : List Ri} (h : RideAt w base a c l) (hz : w.heap.size ≤ w1.heap.size) (hk : ∀ (g : Nat) (cs : Array Value) (f : Nat × Nat), w.heap[g]? = some (Obj.cells cs 37 f) → w1.heap[g]? = w.heap[g]?) : RideAt w1 base a c l := by
  obtain ⟨h1, h2⟩ := h
  refine ⟨h1, ?_⟩
  rcases h2 with h2 | ⟨g, cap, cur, q, hb, hh, hr⟩
  · exact Or.inl h2
  · exact Or.inr ⟨g, cap, cur, q, hb, (hk g cur _ hh).trans hh, hr⟩

theorem RideAt.zero (w : World) (base : Nat) : RideAt w base none 0 [] := ⟨rfl, Or.inl ⟨rfl, rfl⟩⟩

theorem RideAt.rides {w : World} {base c : Nat} {a : Option Addr} {l : List Ri} (h : RideAt w base a c l) : Rides w a l := by
  rcases h.old with h | ⟨g, cs, rfl, -, -, h⟩
  · exact Or.inl (List.eq_nil_of_length_eq_zero h)
  · exact h

theorem RideAt.on {w w1 : World} {base c : Nat} {a : Option Addr} {l : List Ri} (h : RideAt w base a c l) (L : Below w.heap.size w w1) : RideAt w1 base a c l := h.keep L.size fun g cs f hg => L.block g (lt_of hg)

theorem RideAt.lower {w : World} {base base' c : Nat} {a : Option Addr} {l : List Ri} (h : RideAt w base a c l) (hl : base' ≤ base) : RideAt w base' a c l := by
  obtain ⟨h1, h2⟩ := h
  refine ⟨h1, ?_⟩
  rcases h2 with h2 | ⟨g, cap, cur, q, hb, hr⟩
  · exact Or.inl h2
  · exact Or.inr ⟨g, cap, cur, q, Nat.le_trans hl hb, hr⟩

/-- A list of ways of the call's own. -/
structure Lw (w : World) (base : Nat) (v : Value) (ps : List Pw) : Prop where
  own : w.ownsRow base 70 3 v ps.length (wc ps)
  rds : ∀ p ∈ ps, RideAt w base p.a p.cap (ridesOf p.o.p)

theorem Lw.on {w w1 : World} {base : Nat} {v : Value} {ps : List Pw} (h : Lw w base v ps) (L : Below w.heap.size w w1) : Lw w1 base v ps :=
  ⟨Pk.own_below h.own L (Nat.le_refl _), fun p hp => (h.rds p hp).on L⟩

/-- Where an element lies. -/
theorem Lw.at {w : World} {base : Nat} {v : Value} {ps : List Pw} (h : Lw w base v ps) (k : Nat) (hk : k < ps.length) : ∃ g c, v = .slice (some ⟨g, 0, none⟩) ps.length c ∧ g < w.heap.size ∧ base ≤ g ∧
    (w.cell? ⟨g, k * 3, none⟩ = some ps[k].r ∧ w.frozen? ⟨g, k * 3, none⟩ = false) ∧ (w.cell? ⟨g, k * 3 + 1, none⟩ = some (.int .i64 ps[k].o.s) ∧ w.frozen? ⟨g, k * 3 + 1, none⟩ = false) ∧ (w.cell? ⟨g, k * 3 + 2, none⟩ = some (.int .i64 ps[k].o.z) ∧ w.frozen? ⟨g, k * 3 + 2, none⟩ = false) := by
  obtain ⟨a, c, rfl, hx⟩ := Pk.own_form h.own
  rcases hx with h0 | ⟨g, rfl⟩
  · omega
  · have hb := h.own.lt g rfl
    obtain ⟨e0, e1, e2⟩ := wc_at ps k hk
    exact ⟨g, c, rfl, hb.2, hb.1, own_cells h.own _ _ e0, own_cells h.own _ _ e1, own_cells h.own _ _ e2⟩

/-- A way put into a list by its station and hour. -/
def keepP : List Pw → Pw → List Pw
  | [], w => [w]
  | v :: l, w => if v.o.s = w.o.s ∧ v.o.z = w.o.z then (if less (ridesOf w.o.p) (ridesOf v.o.p) = true then w else v) :: l else v :: keepP l w

theorem keepP_o (l : List Pw) (w : Pw) : (keepP l w).map (·.o) = keep (l.map (·.o)) w.o := by
  induction l with
  | nil => rfl
  | cons v l ih =>
    simp only [keepP, keep, List.map_cons]
    by_cases h : v.o.s = w.o.s ∧ v.o.z = w.o.z
    · rw [if_pos h, if_pos h]
      by_cases hl : less (ridesOf w.o.p) (ridesOf v.o.p) = true
      · rw [if_pos hl, if_pos hl]; rfl
      · rw [if_neg hl, if_neg hl]; rfl
    · rw [if_neg h, if_neg h, List.map_cons, ih]

theorem keepP_mem {l : List Pw} {w x : Pw} (h : x ∈ keepP l w) : x = w ∨ x ∈ l := by
  induction l with
  | nil =>
    simp [keepP] at h
    exact Or.inl h
  | cons v l ih =>
    unfold keepP at h
    by_cases hk : v.o.s = w.o.s ∧ v.o.z = w.o.z
    · rw [if_pos hk] at h
      rcases List.mem_cons.1 h with h | h
      · by_cases hl : less (ridesOf w.o.p) (ridesOf v.o.p) = true
        · rw [if_pos hl] at h; exact Or.inl h
        · rw [if_neg hl] at h; exact Or.inr (by rw [h]; exact List.mem_cons_self)
      · exact Or.inr (List.mem_cons_of_mem _ h)
    · rw [if_neg hk] at h
      rcases List.mem_cons.1 h with h | h
      · exact Or.inr (by rw [h]; exact List.mem_cons_self)
      · rcases ih h with h | h
        · exact Or.inl h
        · exact Or.inr (List.mem_cons_of_mem _ h)

theorem keepP_hit {l : List Pw} {w : Pw} {k : Nat} (hk : k < l.length) (h : ∀ i (hi : i < l.length), i < k → ¬ (l[i].o.s = w.o.s ∧ l[i].o.z = w.o.z)) (e : l[k].o.s = w.o.s ∧ l[k].o.z = w.o.z) :
    keepP l w = if less (ridesOf w.o.p) (ridesOf l[k].o.p) = true then l.set k w else l := by
  induction l generalizing k with
  | nil => simp at hk
  | cons v l ih =>
    cases k with
    | zero =>
      simp only [List.getElem_cons_zero] at e ⊢
      rw [keepP, if_pos e]
      by_cases hl : less (ridesOf w.o.p) (ridesOf v.o.p) = true
      · rw [if_pos hl, if_pos hl, List.set_cons_zero]
      · rw [if_neg hl, if_neg hl]
    | succ k =>
      have h0 := h 0 (by simp) (by omega)
      simp only [List.getElem_cons_zero] at h0
      simp only [List.getElem_cons_succ] at e ⊢
      have hk' : k < l.length := by simpa using hk
      rw [keepP, if_neg h0, ih hk' (fun i hi hik => h (i + 1) (by simpa using hi) (by omega)) e]
      by_cases hl : less (ridesOf w.o.p) (ridesOf l[k].o.p) = true
      · rw [if_pos hl, if_pos hl, List.set_cons_succ]
      · rw [if_neg hl, if_neg hl]

theorem keepP_new {l : List Pw} {w : Pw} (h : ∀ i (hi : i < l.length), ¬ (l[i].o.s = w.o.s ∧ l[i].o.z = w.o.z)) : keepP l w = l ++ [w] := by
  induction l with
  | nil => rfl
  | cons v l ih =>
    have h0 := h 0 (by simp)
    simp only [List.getElem_cons_zero] at h0
    rw [keepP, if_neg h0, ih (fun i hi => h (i + 1) (by simpa using hi))]
    rfl

theorem keepP_le (l : List Pw) (w : Pw) : (keepP l w).length ≤ l.length + 1 := by
  induction l with
  | nil => simp [keepP]
  | cons v l ih =>
    rw [keepP]
    by_cases h : v.o.s = w.o.s ∧ v.o.z = w.o.z
    · rw [if_pos h]; simp
    · rw [if_neg h]; simp; omega

theorem grown_refl (w : World) (r : Option Nat) : w.grownBy w r := ⟨rfl, rfl, rfl, Nat.le_refl _, fun _ _ _ => rfl⟩

theorem grown_below {w w1 : World} (L : Below w.heap.size w w1) (r : Option Nat) : w.grownBy w1 r := ⟨L.os, L.tape, L.output, L.size, fun b h _ => L.block b h⟩

theorem grown_trans {a b c : World} {r s : Option Nat} (h : a.grownBy b r) (k : b.grownBy c s) (hs : s = r ∨ ∃ g, s = some g ∧ a.heap.size ≤ g) : a.grownBy c r :=
  ⟨k.os.trans h.os, k.tape.trans h.tape, k.output.trans h.output, Nat.le_trans h.size k.size, fun b hb hne => (k.block b (Nat.lt_of_lt_of_le hb h.size) (by
    rcases hs with rfl | ⟨g, rfl, hg⟩
    · exact hne
    · intro e; simp only [Option.some.injEq] at e; omega)).trans (h.block b hb hne)⟩

theorem grown_set {w : World} {g i : Nat} (u : Value) : w.grownBy (w.setCell ⟨g, i, none⟩ u) (some g) :=
  ⟨rfl, rfl, rfl, by rw [World.size_setCell]; exact Nat.le_refl _, fun b hb hne => Below.heap_setCell w ⟨g, i, none⟩ u b (by show b ≠ g; intro e; exact hne (by rw [e]))⟩

theorem own_grown {w w' : World} {row : Option Nat} {base e size : Nat} {v : Value} {n : Nat} {xs : List Value} (h : w.ownsRow base e size v n xs) (G : w.grownBy w' row) (hne : ∀ k, v.ownBlock = some k → some k ≠ row) : w'.ownsRow base e size v n xs := own_kept h G fun g hg e => hne g hg e.symm

/-- Rides are kept where nothing but a row of ways is turned. -/
theorem RideAt.grown {w w1 : World} {base b2 c : Nat} {a : Option Addr} {l : List Ri} {v : Value} {n : Nat} {xs : List Value} (h : RideAt w base a c l) (G : w.grownBy w1 v.ownBlock) (O : w.ownsRow b2 70 3 v n xs) : RideAt w1 base a c l :=
  h.keep G.size fun g cs f hg => G.block g (lt_of hg) (Pk.own_ne O hg (by decide))

theorem info_way : (Try.prog.info? 70).map (fun i => (i.zero, i.size, i.bytes)) = some (some (.agg #[.slice none 0 0, .int .i64 0, .int .i64 0]), 3, 40) := by kernel_rfl

end Rd
end Go.Proofs.Ytfoccmhmgdengaa

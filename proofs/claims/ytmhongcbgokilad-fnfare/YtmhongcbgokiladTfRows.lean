/- Rows that the model's search owns: its open ways, their stations, the stations it has gone on from. -/
import Derived.Test.YtmhongcbgokiladTfBef
import Derived.Test.YtmhongcbgokiladTfOver
namespace Go.Proofs.Ytmhongcbgokilad
namespace Tf
open Go.ChangeShapes Go.WideShapes Go.ChangeAt Go.RowKit
open Pk (new_below join_below cell_at heap_new frozen_at lt_of kept heap_old Drawn info_of)
set_option linter.unusedSimpArgs false
set_option linter.unusedVariables false

/-- An open way of the model: where its stations lie, and itself. -/
structure Pw where
  g : Nat
  cap : Nat
  o : Wy

abbrev Pw.v (p : Pw) : Value := .slice (some ⟨p.g, 0, none⟩) p.o.s.length p.cap

def wcells (ps : List Pw) : List Value := ps.flatMap fun p => [p.v, .int .i64 p.o.c]

theorem wcells_length (ps : List Pw) : (wcells ps).length = ps.length * 2 := by
  induction ps with
  | nil => rfl
  | cons p r ih => simp [wcells] at ih ⊢; omega

theorem wcells_append (ps qs : List Pw) : wcells (ps ++ qs) = wcells ps ++ wcells qs := by simp [wcells]

theorem wcells_at : ∀ (ps : List Pw) (i : Nat) (h : i < ps.length), (wcells ps)[i * 2]? = some ps[i].v ∧ (wcells ps)[i * 2 + 1]? = some (.int .i64 ps[i].o.c)
  | p :: r, 0, _ => by simp [wcells]
  | p :: r, i + 1, h => by
    have := wcells_at r i (by simpa using h)
    have e1 : (i + 1) * 2 = i * 2 + 2 := by omega
    have e2 : (i + 1) * 2 + 1 = i * 2 + 1 + 2 := by omega
    simp only [wcells, List.flatMap_cons, e1, e2, List.getElem_cons_succ] at this ⊢
    exact this

theorem wcells_drop : ∀ (ps : List Pw) (k : Nat), wcells (ps.drop k) = (wcells ps).drop (k * 2)
  | ps, 0 => by simp
  | [], k + 1 => by simp [wcells]
  | p :: r, k + 1 => by
    rw [List.drop_succ_cons, wcells_drop r k]
    have e1 : (k + 1) * 2 = k * 2 + 1 + 1 := by omega
    rw [e1]
    simp [wcells]

theorem wcells_one (ps : List Pw) : ∀ u ∈ wcells ps, u.oneCell' = true := by
  intro u hu
  obtain ⟨p, -, h⟩ := List.mem_flatMap.1 hu
  simp at h
  rcases h with rfl | rfl <;> rfl

/-- The cells of an owned row. -/
theorem own_cells {w : World} {base e size g n cap : Nat} {xs : List Value} (h : w.ownsRow base e size (.slice (some ⟨g, 0, none⟩) n cap) n xs) (j : Nat) (u : Value) (hu : xs[j]? = some u) : w.cell? ⟨g, j, none⟩ = some u := by
  obtain ⟨hl, h2⟩ := h
  rcases h2 with ⟨hv, -⟩ | ⟨g', cap', cur, hv, hb, hh, h1, h3, h4, h5⟩
  · cases hv
  · simp only [Value.slice.injEq, Option.some.injEq, Addr.mk.injEq] at hv
    obtain ⟨⟨rfl, -⟩, -, rfl⟩ := hv
    rw [cell_at hh]
    have hj : j < xs.length := (List.getElem?_eq_some_iff.1 hu).1
    rw [← h5, List.getElem?_take, if_pos (by omega), Array.getElem?_toList] at hu
    exact hu

theorem own_kept {w w1 : World} {base e size n : Nat} {v : Value} {xs : List Value} {row : Option Nat} (h : w.ownsRow base e size v n xs) (G : w.grownBy w1 row) (hne : ∀ g, v.ownBlock = some g → row ≠ some g) : w1.ownsRow base e size v n xs := by
  obtain ⟨hl, h2⟩ := h
  refine ⟨hl, ?_⟩
  rcases h2 with h2 | ⟨g, cap, cur, hv, hb, hh, hr⟩
  · exact Or.inl h2
  · refine Or.inr ⟨g, cap, cur, hv, hb, ?_, hr⟩
    rw [G.block g (lt_of hh) (fun e => hne g (by rw [hv]; rfl) e.symm)]
    exact hh

theorem own_on' {w w1 : World} {B base e size n : Nat} {v : Value} {xs : List Value} (h : w.ownsRow base e size v n xs) (L : Below B w w1) (hB : w.heap.size ≤ B) : w1.ownsRow base e size v n xs := Pk.own_below h L hB

/-- Rows of two types lie apart. -/
theorem rows_apart {w : World} {b1 b2 e1 e2 s1 s2 n1 n2 : Nat} {v1 v2 : Value} {x1 x2 : List Value} (h1 : w.ownsRow b1 e1 s1 v1 n1 x1) (h2 : w.ownsRow b2 e2 s2 v2 n2 x2) (he : e1 ≠ e2) : ∀ g, v1.ownBlock = some g → v2.ownBlock ≠ some g := by
  intro g hg1 hg2
  obtain ⟨-, h1⟩ := h1
  obtain ⟨-, h2⟩ := h2
  rcases h1 with ⟨hv, -⟩ | ⟨g1, c1, cur1, hv1, -, hh1, -⟩
  · rw [hv] at hg1; cases hg1
  · rcases h2 with ⟨hv, -⟩ | ⟨g2, c2, cur2, hv2, -, hh2, -⟩
    · rw [hv] at hg2; cases hg2
    · rw [hv1] at hg1
      rw [hv2] at hg2
      simp only [Value.ownBlock, Option.some.injEq] at hg1 hg2
      subst hg1
      subst hg2
      rw [hh1] at hh2
      simp only [Option.some.injEq, Obj.cells.injEq] at hh2
      exact he hh2.2.1

theorem own_blt {w : World} {base e size n : Nat} {v : Value} {xs : List Value} (h : w.ownsRow base e size v n xs) {g : Nat} (hg : v.ownBlock = some g) : base ≤ g ∧ g < w.heap.size := h.lt g hg

/-- An owned row of no elements, laid new. -/
theorem own_empty (w : World) (base e size : Nat) (hb : base ≤ w.heap.size) : (w.alloc (.cells #[] e)).ownsRow base e size (.slice (some ⟨w.heap.size, 0, none⟩) 0 0) 0 [] :=
  ⟨by simp, Or.inr ⟨w.heap.size, 0, #[], rfl, hb, heap_new w _, by omega, by simp [maxLen], by simp, by simp⟩⟩

/-- The way of the model in an owned row. -/
theorem own_ws {w : World} {base : Nat} {p : Pw} (h : w.ownsRow base 3 1 p.v p.o.s.length (zc p.o.s)) (h0 : 0 < p.o.s.length) : Ws w (.agg #[p.v, .int .i64 p.o.c]) p.o := by
  obtain ⟨g', cap', hv, -, hlt⟩ := h.form h0
  simp only [Value.slice.injEq, Option.some.injEq, Addr.mk.injEq] at hv
  obtain ⟨⟨e1, -⟩, -, e3⟩ := hv
  refine ⟨p.g, p.cap, rfl, by rw [e1]; exact hlt, h0, fun i hi => own_cells h i _ ?_⟩
  simp [zc, List.getElem?_eq_getElem hi]

theorem own_ints {w : World} {base : Nat} {v : Value} {l : List Int} (h : w.ownsRow base 3 1 v l.length (zc l)) : ∃ a cap, v = .slice a l.length cap ∧ Ints w a l := by
  obtain ⟨a, cap, rfl, hx⟩ := Pk.own_form h
  refine ⟨a, cap, rfl, ?_⟩
  rcases hx with h0 | ⟨g, rfl⟩
  · exact Or.inl (List.eq_nil_of_length_eq_zero h0)
  · by_cases h0 : l.length = 0
    · exact Or.inl (List.eq_nil_of_length_eq_zero h0)
    · obtain ⟨g', cap', hv, -, hlt⟩ := h.form (by omega)
      simp only [Value.slice.injEq, Option.some.injEq, Addr.mk.injEq] at hv
      refine Or.inr ⟨g, 0, rfl, by rw [hv.1.1]; exact hlt, fun i hi => ?_⟩
      rw [Nat.zero_add]
      refine own_cells h i _ ?_
      simp [zc, List.getElem?_eq_getElem hi]

/-- 'append' at an operation, whatever is appended. -/
theorem wp_append_at {P : Program} {w : World} {o : Oper} {a : Act} {K : Act → World → Prop} {Q : Exit → Act → World → Prop} (s x : Operand) (t : TypeId)
    (ho : o.op = .call { callee := .builtin .append, args := #[s, x], argTypes := #[t, t] })
    (base : Nat) (e : TypeId) (i : TypeInfo) (z : Value) (size bytes : Nat) (ht : P.underlying t = some (.slice e)) (hi : P.info? e = some i) (hz : i.zero = some z)
    (hsize : i.size = size) (hby : i.bytes = bytes) (hzs : z.cells.size = size) (hsz : 0 < size)
    (v : Value) (n : Nat) (xs : List Value) (hs : a.eval s = v) (hown : w.ownsRow base e size v n xs)
    (ad : Addr) (m c : Nat) (news : List Value) (hx : a.eval x = .slice (some ad) m c) (hl : news.length = m * size) (hnews : ∀ j u, news[j]? = some u → w.cell? (ad.add j) = some u) (h1 : ∀ u ∈ news, u.oneCell' = true)
    (h63 : n + m ≤ maxLen) (hbytes : (n + m) * bytes ≤ 140737488355328) (hbase : base ≤ w.heap.size)
    (h : ∀ v' w', w'.ownsRow base e size v' (n + m) (xs ++ news) → w.grownBy w' v.ownBlock → (v'.ownBlock = v.ownBlock ∨ v'.ownBlock = some w.heap.size) → K (a.put o.dst v') w') : o.wp P a w K Q := by
  obtain ⟨v', w', hr, h2, h3, -, h5⟩ := run_append_own_at (P := P) w base t o.type e i z size bytes ht hi hz hsize hby hzs hsz v n xs hown ad m c news hl hnews h1 h63 hbytes hbase
  unfold Oper.wp execOp
  simp only [ho, resolve, invoke, builtin, Sem.run_bind, Sem.run_pure, Result.andThen_ok, List.map_toArray, List.map_cons, List.map_nil, hs, hx, hr]
  exact h v' w' h2 h3 h5

theorem info_lw : (Try.prog.info? 109).map (fun i => (i.zero, i.size, i.bytes)) = some (some (.agg #[.slice none 0 0, .int .i64 0]), 2, 32) := by kernel_rfl

end Tf
end Go.Proofs.Ytmhongcbgokilad

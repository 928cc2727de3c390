/- Contracts of the laws' own helpers over lists of orders: a copy, two of them held against each other; a list that came in. -/
import Derived.Test.YtaplbjoghkipdaaDoorOfOrds
namespace Go.Proofs.YtaplbjoghkipdaaDoor
namespace Od
open Go.ChangeShapes Go.WideShapes Go.ChangeAt Go.RowKit Go.Joins
open Pk (new_below join_below cell_at heap_new frozen_at lt_of kept heap_old info_of Room)
open Rd (Ri Rides)
set_option linter.unusedSimpArgs false
set_option linter.unusedVariables false

theorem add_plain (b o i : Nat) : Addr.add ⟨b, o, none⟩ i = ⟨b, o + i, none⟩ := by simp [Addr.add]

theorem set_cell {w : World} {g i j : Nat} {u v : Value} (h : w.cell? ⟨g, i, none⟩ = some v) : (w.setCell ⟨g, j, none⟩ u).cell? ⟨g, i, none⟩ = some (if i = j then u else v) := by
  by_cases e : i = j
  · subst e
    rw [if_pos rfl]
    exact World.cell?_setCell_same _ _ _ h
  · rw [if_neg e, World.cell?_setCell_other _ _ _ _ (by intro h; apply e; simpa using h.symm)]
    exact h

/-- An order of the call's own at a place of block g: its rides lie in a block of their own, from lo on. -/
def OwnAt (w : World) (lo g o : Nat) (t : Oo) : Prop := Nums w g o t.h ∧ ∃ gi, lo ≤ gi ∧ gi ≠ g ∧ gi < w.heap.size ∧ w.cell? ⟨g, o + 5, none⟩ = some (.slice (some ⟨gi, 0, none⟩) t.l.length t.l.length) ∧ Rides w (some ⟨gi, 0, none⟩) t.l ∧ Room w gi (t.l.length * 4)

/-- A list of orders of the call's own, the first k of which are laid. -/
def Mine (w : World) (lo g n k : Nat) (ts : List Oo) : Prop := Room w g (n * 9) ∧ ∀ i (h : i < ts.length), i < k → OwnAt w lo g (i * 9) ts[i]

theorem OwnAt.on {w w1 : World} {lo g o : Nat} {t : Oo} (h : OwnAt w lo g o t) (L : Below w.heap.size w w1) (hg : g < w.heap.size) : OwnAt w1 lo g o t := by
  obtain ⟨h1, gi, h2, h3, h4, h5, h6, h7⟩ := h
  exact ⟨h1.on fun j => L.cell (p := ⟨g, j, none⟩) hg, gi, h2, h3, Nat.lt_of_lt_of_le h4 L.size, by rw [L.cell (p := ⟨g, o + 5, none⟩) hg]; exact h5, h6.on L, h7.on L h4⟩

theorem Mine.on {w w1 : World} {lo g n k : Nat} {ts : List Oo} (h : Mine w lo g n k ts) (L : Below w.heap.size w w1) (hg : g < w.heap.size) : Mine w1 lo g n k ts :=
  ⟨h.1.on L hg, fun i hi hk => (h.2 i hi hk).on L hg⟩

/-- An order's cells written. -/
def setOd (w : World) (g j : Nat) (t : Hd) (gi n : Nat) : World := ((((((((w.setCell ⟨g, j, none⟩ (.int .i64 t.id)).setCell ⟨g, j + 1, none⟩ (.int .i64 t.st)).setCell ⟨g, j + 2, none⟩ (.string t.nm)).setCell ⟨g, j + 3, none⟩ (.int .i64 t.cl)).setCell ⟨g, j + 4, none⟩ (.int .i64 t.ca)).setCell ⟨g, j + 5, none⟩ (.slice (some ⟨gi, 0, none⟩) n n)).setCell ⟨g, j + 6, none⟩ (.int .i64 t.pr)).setCell ⟨g, j + 7, none⟩ (.int .i64 t.pa)).setCell ⟨g, j + 8, none⟩ (.int .i64 t.fi)

theorem setOd_size (w : World) (g j : Nat) (t : Hd) (gi n : Nat) : (setOd w g j t gi n).heap.size = w.heap.size := by
  unfold setOd
  rw [World.size_setCell, World.size_setCell, World.size_setCell, World.size_setCell, World.size_setCell, World.size_setCell, World.size_setCell, World.size_setCell, World.size_setCell]

theorem setOd_other {w : World} {g j : Nat} {t : Hd} {gi n : Nat} {p : Addr} (h : p.block ≠ g) : (setOd w g j t gi n).cell? p = w.cell? p := by
  unfold setOd
  rw [cell_other h, cell_other h, cell_other h, cell_other h, cell_other h, cell_other h, cell_other h, cell_other h, cell_other h]

theorem setOd_room {w : World} {g j : Nat} {t : Hd} {gi n b m : Nat} (h : Room w b m) : Room (setOd w g j t gi n) b m :=
  ((((((((h.set g j _).set g (j + 1) _).set g (j + 2) _).set g (j + 3) _).set g (j + 4) _).set g (j + 5) _).set g (j + 6) _).set g (j + 7) _).set g (j + 8) _

theorem setOd_cell {w : World} {g i j : Nat} {t : Hd} {gi n : Nat} {v : Value} (h : w.cell? ⟨g, i, none⟩ = some v) : (setOd w g j t gi n).cell? ⟨g, i, none⟩ = some (if i = j + 8 then .int .i64 t.fi else if i = j + 7 then .int .i64 t.pa else if i = j + 6 then .int .i64 t.pr else if i = j + 5 then .slice (some ⟨gi, 0, none⟩) n n else if i = j + 4 then .int .i64 t.ca else if i = j + 3 then .int .i64 t.cl else if i = j + 2 then .string t.nm else if i = j + 1 then .int .i64 t.st else if i = j then .int .i64 t.id else v) := set_cell (set_cell (set_cell (set_cell (set_cell (set_cell (set_cell (set_cell (set_cell h))))))))

theorem rides_away {w w1 : World} {gi g : Nat} {l : List Ri} (h : Rides w (some ⟨gi, 0, none⟩) l) (hsz : w1.heap.size = w.heap.size) (hc : ∀ p : Addr, p.block ≠ g → w1.cell? p = w.cell? p) (hne : gi ≠ g) : Rides w1 (some ⟨gi, 0, none⟩) l := by
  rcases h with h | ⟨b, o, e, hb, hcc⟩
  · exact Or.inl h
  · simp only [Option.some.injEq, Addr.mk.injEq, and_true] at e
    obtain ⟨rfl, rfl⟩ := e
    refine Or.inr ⟨gi, 0, rfl, by omega, fun i hi => ?_⟩
    rw [hc ⟨gi, 0 + i * 4, none⟩ hne, hc ⟨gi, 0 + i * 4 + 1, none⟩ hne, hc ⟨gi, 0 + i * 4 + 2, none⟩ hne, hc ⟨gi, 0 + i * 4 + 3, none⟩ hne]
    exact hcc i hi

theorem Mine.step {w : World} {lo g n k gi : Nat} {ts : List Oo} (h : Mine w lo g n k ts) (hk : k < n) (hkt : k < ts.length) (h1 : lo ≤ gi) (h2 : gi ≠ g) (h3 : gi < w.heap.size) (S : Rides w (some ⟨gi, 0, none⟩) ts[k].l) (R : Room w gi (ts[k].l.length * 4)) : Mine (setOd w g (k * 9) ts[k].h gi ts[k].l.length) lo g n (k + 1) ts := by
  refine ⟨setOd_room h.1, fun i hi hik => ?_⟩
  by_cases e : i = k
  · subst e
    obtain ⟨⟨v0, e0⟩, -⟩ := h.1 (i * 9) (by omega)
    obtain ⟨⟨v1, e1⟩, -⟩ := h.1 (i * 9 + 1) (by omega)
    obtain ⟨⟨v2, e2⟩, -⟩ := h.1 (i * 9 + 2) (by omega)
    obtain ⟨⟨v3, e3⟩, -⟩ := h.1 (i * 9 + 3) (by omega)
    obtain ⟨⟨v4, e4⟩, -⟩ := h.1 (i * 9 + 4) (by omega)
    obtain ⟨⟨v5, e5⟩, -⟩ := h.1 (i * 9 + 5) (by omega)
    obtain ⟨⟨v6, e6⟩, -⟩ := h.1 (i * 9 + 6) (by omega)
    obtain ⟨⟨v7, e7⟩, -⟩ := h.1 (i * 9 + 7) (by omega)
    obtain ⟨⟨v8, e8⟩, -⟩ := h.1 (i * 9 + 8) (by omega)
    refine ⟨⟨?_, ?_, ?_, ?_, ?_, ?_, ?_, ?_⟩, gi, h1, h2, by rw [setOd_size]; exact h3, ?_, rides_away S (setOd_size ..) (fun p hp => setOd_other hp) h2, setOd_room R⟩
    · rw [setOd_cell e0]; simp
    · rw [setOd_cell e1]; simp
    · rw [setOd_cell e2]; simp
    · rw [setOd_cell e3]; simp
    · rw [setOd_cell e4]; simp
    · rw [setOd_cell e6]; simp
    · rw [setOd_cell e7]; simp
    · rw [setOd_cell e8]; simp
    · rw [setOd_cell e5]; simp
  · obtain ⟨⟨e0, e1, e2, e3, e4, e6, e7, e8⟩, gj, q1, q2, q3, q4, q5, q6⟩ := h.2 i hi (by omega)
    refine ⟨⟨?_, ?_, ?_, ?_, ?_, ?_, ?_, ?_⟩, gj, q1, q2, by rw [setOd_size]; exact q3, ?_, rides_away q5 (setOd_size ..) (fun p hp => setOd_other hp) q2, setOd_room q6⟩
    · rw [setOd_cell e0, if_neg (by omega), if_neg (by omega), if_neg (by omega), if_neg (by omega), if_neg (by omega), if_neg (by omega), if_neg (by omega), if_neg (by omega), if_neg (by omega)]
    · rw [setOd_cell e1, if_neg (by omega), if_neg (by omega), if_neg (by omega), if_neg (by omega), if_neg (by omega), if_neg (by omega), if_neg (by omega), if_neg (by omega), if_neg (by omega)]
    · rw [setOd_cell e2, if_neg (by omega), if_neg (by omega), if_neg (by omega), if_neg (by omega), if_neg (by omega), if_neg (by omega), if_neg (by omega), if_neg (by omega), if_neg (by omega)]
    · rw [setOd_cell e3, if_neg (by omega), if_neg (by omega), if_neg (by omega), if_neg (by omega), if_neg (by omega), if_neg (by omega), if_neg (by omega), if_neg (by omega), if_neg (by omega)]
    · rw [setOd_cell e4, if_neg (by omega), if_neg (by omega), if_neg (by omega), if_neg (by omega), if_neg (by omega), if_neg (by omega), if_neg (by omega), if_neg (by omega), if_neg (by omega)]
    · rw [setOd_cell e6, if_neg (by omega), if_neg (by omega), if_neg (by omega), if_neg (by omega), if_neg (by omega), if_neg (by omega), if_neg (by omega), if_neg (by omega), if_neg (by omega)]
    · rw [setOd_cell e7, if_neg (by omega), if_neg (by omega), if_neg (by omega), if_neg (by omega), if_neg (by omega), if_neg (by omega), if_neg (by omega), if_neg (by omega), if_neg (by omega)]
    · rw [setOd_cell e8, if_neg (by omega), if_neg (by omega), if_neg (by omega), if_neg (by omega), if_neg (by omega), if_neg (by omega), if_neg (by omega), if_neg (by omega), if_neg (by omega)]
    · rw [setOd_cell q4, if_neg (by omega), if_neg (by omega), if_neg (by omega), if_neg (by omega), if_neg (by omega), if_neg (by omega), if_neg (by omega), if_neg (by omega), if_neg (by omega)]

theorem Mine.orders {w : World} {lo g : Nat} {ts : List Oo} (h : Mine w lo g ts.length ts.length ts) (hg : g < w.heap.size) : Orders w (some ⟨g, 0, none⟩) ts := by
  refine Or.inr ⟨g, 0, rfl, hg, fun i hi => ?_⟩
  obtain ⟨h1, gi, -, -, -, h2, h3, -⟩ := h.2 i hi hi
  rw [Nat.zero_add]
  exact ⟨h1, some ⟨gi, 0, none⟩, _, h2, h3⟩

theorem info_order : (Tryd.prog.info? 141).map (fun i => (i.zero, i.size, i.bytes)) = some (some (odV ⟨0, 0, ByteArray.empty, 0, 0, 0, 0, 0⟩ none 0 0), 9, 96) := by kernel_rfl

/-- Numbers that an int holds. -/
abbrev WfI (x : Int) : Prop := (Lit.int .i64 x).wf = true

/-- All numbers of an order are such, and its texts are none too long. -/
structure Wf (t : Oo) : Prop where
  id : WfI t.h.id
  st : WfI t.h.st
  cl : WfI t.h.cl
  ca : WfI t.h.ca
  pr : WfI t.h.pr
  pa : WfI t.h.pa
  fi : WfI t.h.fi
  nm : t.h.nm.size ≤ maxLen
  le : t.l.length ≤ maxLen

end Od
end Go.Proofs.YtaplbjoghkipdaaDoor

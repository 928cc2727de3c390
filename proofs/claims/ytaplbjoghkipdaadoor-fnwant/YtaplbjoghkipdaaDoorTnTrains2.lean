/- Contracts of the laws' own helpers over lists of trains: a copy, two of them held against each other; a list that came in. -/
import Derived.Test.YtaplbjoghkipdaaDoorTnTrains
import Derived.Test.YtaplbjoghkipdaaDoorTnOpen
namespace Go.Proofs.YtaplbjoghkipdaaDoor
namespace Tn
open Go.ChangeShapes Go.WideShapes Go.ChangeAt Go.RowKit Go.Joins
open Pk (new_below join_below cell_at heap_new frozen_at lt_of kept heap_old info_of Room)
set_option linter.unusedSimpArgs false
set_option linter.unusedVariables false

/-- A train of the call's own at a place of block g: its stops lie in a block of their own, from lo on. -/
def OwnAt (w : World) (lo g o : Nat) (t : Tr) : Prop := Nums w g o t.h ∧ ∃ gi, lo ≤ gi ∧ gi ≠ g ∧ gi < w.heap.size ∧ w.cell? ⟨g, o + 4, none⟩ = some (.slice (some ⟨gi, 0, none⟩) t.l.length t.l.length) ∧ Stops w (some ⟨gi, 0, none⟩) t.l ∧ Room w gi (t.l.length * 3)

/-- A list of trains of the call's own, the first k of which are laid. -/
def Mine (w : World) (lo g n k : Nat) (ts : List Tr) : Prop := Room w g (n * 5) ∧ ∀ i (h : i < ts.length), i < k → OwnAt w lo g (i * 5) ts[i]

theorem OwnAt.on {w w1 : World} {lo g o : Nat} {t : Tr} (h : OwnAt w lo g o t) (L : Below w.heap.size w w1) (hg : g < w.heap.size) : OwnAt w1 lo g o t := by
  obtain ⟨h1, gi, h2, h3, h4, h5, h6, h7⟩ := h
  exact ⟨h1.on fun j => L.cell (p := ⟨g, j, none⟩) hg, gi, h2, h3, Nat.lt_of_lt_of_le h4 L.size, by rw [L.cell (p := ⟨g, o + 4, none⟩) hg]; exact h5, h6.on L, h7.on L h4⟩

theorem Mine.on {w w1 : World} {lo g n k : Nat} {ts : List Tr} (h : Mine w lo g n k ts) (L : Below w.heap.size w w1) (hg : g < w.heap.size) : Mine w1 lo g n k ts :=
  ⟨h.1.on L hg, fun i hi hk => (h.2 i hi hk).on L hg⟩

/-- A train's cells written. -/
def setTr (w : World) (g j : Nat) (t : Hd) (gi n : Nat) : World := ((((w.setCell ⟨g, j, none⟩ (.int .i64 t.id)).setCell ⟨g, j + 1, none⟩ (.int .i64 t.dy)).setCell ⟨g, j + 2, none⟩ (.int .i64 t.co)).setCell ⟨g, j + 3, none⟩ (.int .i64 t.se)).setCell ⟨g, j + 4, none⟩ (.slice (some ⟨gi, 0, none⟩) n n)

theorem setTr_size (w : World) (g j : Nat) (t : Hd) (gi n : Nat) : (setTr w g j t gi n).heap.size = w.heap.size := by
  unfold setTr
  rw [World.size_setCell, World.size_setCell, World.size_setCell, World.size_setCell, World.size_setCell]

theorem setTr_other {w : World} {g j : Nat} {t : Hd} {gi n : Nat} {p : Addr} (h : p.block ≠ g) : (setTr w g j t gi n).cell? p = w.cell? p := by
  unfold setTr
  rw [cell_other h, cell_other h, cell_other h, cell_other h, cell_other h]

theorem setTr_room {w : World} {g j : Nat} {t : Hd} {gi n b m : Nat} (h : Room w b m) : Room (setTr w g j t gi n) b m :=
  ((((h.set g j _).set g (j + 1) _).set g (j + 2) _).set g (j + 3) _).set g (j + 4) _

theorem setTr_cell {w : World} {g i j : Nat} {t : Hd} {gi n : Nat} {v : Value} (h : w.cell? ⟨g, i, none⟩ = some v) : (setTr w g j t gi n).cell? ⟨g, i, none⟩ = some (if i = j + 4 then .slice (some ⟨gi, 0, none⟩) n n else if i = j + 3 then .int .i64 t.se else if i = j + 2 then .int .i64 t.co else if i = j + 1 then .int .i64 t.dy else if i = j then .int .i64 t.id else v) := set_cell (set_cell (set_cell (set_cell (set_cell h))))

theorem Stops.away {w w1 : World} {gi g : Nat} {l : List St} (h : Stops w (some ⟨gi, 0, none⟩) l) (hsz : w1.heap.size = w.heap.size) (hc : ∀ p : Addr, p.block ≠ g → w1.cell? p = w.cell? p) (hne : gi ≠ g) : Stops w1 (some ⟨gi, 0, none⟩) l := by
  rcases h with h | ⟨b, o, e, hb, hcc⟩
  · exact Or.inl h
  · simp only [Option.some.injEq, Addr.mk.injEq, and_true] at e
    obtain ⟨rfl, rfl⟩ := e
    refine Or.inr ⟨gi, 0, rfl, by omega, fun i hi => ?_⟩
    rw [hc ⟨gi, 0 + i * 3, none⟩ hne, hc ⟨gi, 0 + i * 3 + 1, none⟩ hne, hc ⟨gi, 0 + i * 3 + 2, none⟩ hne]
    exact hcc i hi

theorem Mine.step {w : World} {lo g n k gi : Nat} {ts : List Tr} (h : Mine w lo g n k ts) (hk : k < n) (hkt : k < ts.length) (h1 : lo ≤ gi) (h2 : gi ≠ g) (h3 : gi < w.heap.size) (S : Stops w (some ⟨gi, 0, none⟩) ts[k].l) (R : Room w gi (ts[k].l.length * 3)) : Mine (setTr w g (k * 5) ts[k].h gi ts[k].l.length) lo g n (k + 1) ts := by
  refine ⟨setTr_room h.1, fun i hi hik => ?_⟩
  by_cases e : i = k
  · subst e
    obtain ⟨⟨v0, e0⟩, -⟩ := h.1 (i * 5) (by omega)
    obtain ⟨⟨v1, e1⟩, -⟩ := h.1 (i * 5 + 1) (by omega)
    obtain ⟨⟨v2, e2⟩, -⟩ := h.1 (i * 5 + 2) (by omega)
    obtain ⟨⟨v3, e3⟩, -⟩ := h.1 (i * 5 + 3) (by omega)
    obtain ⟨⟨v4, e4⟩, -⟩ := h.1 (i * 5 + 4) (by omega)
    refine ⟨⟨?_, ?_, ?_, ?_⟩, gi, h1, h2, by rw [setTr_size]; exact h3, ?_, S.away (setTr_size ..) (fun p hp => setTr_other hp) h2, setTr_room R⟩
    · rw [setTr_cell e0]; simp
    · rw [setTr_cell e1]; simp
    · rw [setTr_cell e2]; simp
    · rw [setTr_cell e3]; simp
    · rw [setTr_cell e4]; simp
  · obtain ⟨⟨e0, e1, e2, e3⟩, gj, q1, q2, q3, q4, q5, q6⟩ := h.2 i hi (by omega)
    refine ⟨⟨?_, ?_, ?_, ?_⟩, gj, q1, q2, by rw [setTr_size]; exact q3, ?_, q5.away (setTr_size ..) (fun p hp => setTr_other hp) q2, setTr_room q6⟩
    · rw [setTr_cell e0, if_neg (by omega), if_neg (by omega), if_neg (by omega), if_neg (by omega), if_neg (by omega)]
    · rw [setTr_cell e1, if_neg (by omega), if_neg (by omega), if_neg (by omega), if_neg (by omega), if_neg (by omega)]
    · rw [setTr_cell e2, if_neg (by omega), if_neg (by omega), if_neg (by omega), if_neg (by omega), if_neg (by omega)]
    · rw [setTr_cell e3, if_neg (by omega), if_neg (by omega), if_neg (by omega), if_neg (by omega), if_neg (by omega)]
    · rw [setTr_cell q4, if_neg (by omega), if_neg (by omega), if_neg (by omega), if_neg (by omega), if_neg (by omega)]

theorem Mine.trains {w : World} {lo g : Nat} {ts : List Tr} (h : Mine w lo g ts.length ts.length ts) (hg : g < w.heap.size) : Trains w (some ⟨g, 0, none⟩) ts := by
  refine Or.inr ⟨g, 0, rfl, hg, fun i hi => ?_⟩
  obtain ⟨h1, gi, -, -, -, h2, h3, -⟩ := h.2 i hi hi
  rw [Nat.zero_add]
  exact ⟨h1, gi, 0, _, h2, h3⟩

theorem info_train : (Tryd.prog.info? 72).map (fun i => (i.zero, i.size, i.bytes)) = some (some (trV ⟨0, 0, 0, 0⟩ none 0 0), 5, 56) := by kernel_rfl

end Tn
end Go.Proofs.YtaplbjoghkipdaaDoor

/- Contracts of LinesOk, of the program and of its model. -/
import Derived.Test.YtaplbjoghkipdaaDoorTnTrains2
import Derived.Test.YtaplbjoghkipdaaDoorTnSpec
namespace Go.Proofs.YtaplbjoghkipdaaDoor
namespace Tn
open Go.ChangeShapes Go.WideShapes Go.ChangeAt Go.RowKit
open Pk (new_below join_below cell_at heap_new frozen_at lt_of kept heap_old)
set_option linter.unusedSimpArgs false
set_option linter.unusedVariables false

def t0 : Tr := ⟨⟨0, 0, 0, 0⟩, []⟩

def lineB (ts : List Tr) (i : Nat) : Bool := okB (ts.getD i t0).h (ts.getD i t0).l && (decide (i = 0) || decide ((ts.getD (i - 1) t0).h.id < (ts.getD i t0).h.id))

def linesFrom (ts : List Tr) (i : Nat) : Bool := ((List.range ts.length).drop i).all (lineB ts)

def linesB (ts : List Tr) : Bool := linesFrom ts 0 && decide (ts.length ≤ 40)

theorem linesFrom_step (ts : List Tr) (i : Nat) (h : i < ts.length) : linesFrom ts i = (lineB ts i && linesFrom ts (i + 1)) := by
  unfold linesFrom
  rw [List.drop_eq_getElem_cons (by simpa using h), List.all_cons]
  simp

theorem linesFrom_end (ts : List Tr) (i : Nat) (h : ¬ i < ts.length) : linesFrom ts i = true := by
  unfold linesFrom
  rw [List.drop_eq_nil_of_le (by simp; omega)]
  rfl

theorem getT_at (ts : List Tr) (i : Nat) (h : i < ts.length) : ts.getD i t0 = ts[i] := by simp [List.getD, h]

theorem lineB_0 (ts : List Tr) (h : 0 < ts.length) : lineB ts 0 = okB ts[0].h ts[0].l := by
  unfold lineB
  rw [getT_at ts 0 h]
  simp

theorem lineB_pos (ts : List Tr) (k j : Nat) (h : k < ts.length) (hj : k = j + 1) : lineB ts k = (okB ts[k].h ts[k].l && decide ((ts[j]'(by omega)).h.id < ts[k].h.id)) := by
  subst hj
  unfold lineB
  rw [getT_at ts (j + 1) h, show j + 1 - 1 = j from rfl, getT_at ts j (by omega), decide_eq_false (by omega), Bool.false_or]

theorem lineB_no (ts : List Tr) (k : Nat) (h : k < ts.length) (hn : okB ts[k].h ts[k].l = false) : lineB ts k = false := by
  unfold lineB
  rw [getT_at ts k h, hn]
  rfl

end Tn
end Go.Proofs.YtaplbjoghkipdaaDoor

/- A ticket that a function has made, marked and held against the marks. -/
import Derived.Test.YtbfgfedblnldcaaDoorTkMark
import Derived.Test.YtbfgfedblnldcaaDoorGtLegs
namespace Go.Proofs.YtbfgfedblnldcaaDoor
namespace Gt
open Go.ChangeShapes Go.WideShapes Go.ChangeAt Go.RowKit
open Pk (own_at own_ge own_below own_form new_below join_below heap_new lt_of kept cell_at heap_old frozen_at Room)
open Tk (Lg Hd Legs tkV tkB Marked Band)
set_option linter.unusedSimpArgs false
set_option linter.unusedVariables false

/-- All blocks that were there, but one, are as they were. -/
structure But (g : Nat) (w w' : World) : Prop where
  os : w'.os = w.os
  tape : w'.tape = w.tape
  output : w'.output = w.output
  size : w.heap.size ≤ w'.heap.size
  block : ∀ b, b < w.heap.size → b ≠ g → w'.heap[b]? = w.heap[b]?

theorem But.below {g B : Nat} {a w w' : World} (h : But g w w') (L : Below B a w) (hB : B ≤ w.heap.size) (hg : B ≤ g) : Below B a w' :=
  ⟨h.os.trans L.os, h.tape.trans L.tape, h.output.trans L.output, Nat.le_trans L.size h.size, fun k hk => (h.block k (Nat.lt_of_lt_of_le hk hB) (by omega)).trans (L.block k hk)⟩

theorem But.keep {g b : Nat} {w w' : World} {x : Obj} (h : But g w w') (m : w.heap[b]? = some x) (hne : b ≠ g) : w'.heap[b]? = some x := (h.block b (lt_of m) hne).trans m

theorem But.own {g : Nat} {w w' : World} {base e z n : Nat} {v : Value} {xs : List Value} (h : But g w w') (O : w.ownsRow base e z v n xs) (hne : v.ownBlock ≠ some g) : w'.ownsRow base e z v n xs := by
  obtain ⟨hl, h2⟩ := O
  refine ⟨hl, ?_⟩
  rcases h2 with h2 | ⟨g', cap', cur, hv, hg, hh, h1, h3, h4, h5⟩
  · exact Or.inl h2
  · subst hv
    have hne2 : g' ≠ g := fun e => hne (by rw [e]; rfl)
    exact Or.inr ⟨g', cap', cur, rfl, hg, h.keep hh hne2, h1, h3, h4, h5⟩

end Gt
end Go.Proofs.YtbfgfedblnldcaaDoor

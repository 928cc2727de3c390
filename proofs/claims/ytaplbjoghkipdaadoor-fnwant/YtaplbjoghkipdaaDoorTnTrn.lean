/- Contracts of the laws' own helpers over trains: their size, a copy, two of them held against each other; a train that came in. -/
import Derived.Test.YtaplbjoghkipdaaDoorTnOk2
import Derived.Deep.Slices
import Derived.Deep.Strs
import Derived.Lib.SmallJoins
namespace Go.Proofs.YtaplbjoghkipdaaDoor
namespace Tn
open Go.ChangeShapes Go.WideShapes Go.ChangeAt Go.RowKit Go.Joins
open Pk (new_below join_below cell_at heap_new frozen_at lt_of kept heap_old)
set_option linter.unusedSimpArgs false
set_option linter.unusedVariables false

theorem named {P : Program} {f : FuncId} {args : Array Value} {w : World} {post : Ending → World → Prop} (h : ∀ W, W = w → Calls P f args W post) : Calls P f args w post := h w rfl

theorem h_set {w : World} {c i : Nat} {cs : Array Value} {t : TypeId} {f : Nat × Nat} (h : w.heap[c]? = some (.cells cs t f)) (u : Value) : (w.setCell ⟨c, i, none⟩ u).heap[c]? = some (.cells (cs.setIfInBounds i u) t f) := by
  unfold World.setCell
  simp [Array.getElem?_modify, h]

theorem h_other {w : World} {c g i : Nat} {x : Obj} (h : w.heap[c]? = some x) (hne : c ≠ g) (u : Value) : (w.setCell ⟨g, i, none⟩ u).heap[c]? = some x := by
  rw [Below.heap_setCell w ⟨g, i, none⟩ u c hne]
  exact h

theorem three_blocks (w : World) (a b c : Obj) : (((w.alloc a).alloc b).alloc c).heap[w.heap.size]? = some a ∧ (((w.alloc a).alloc b).alloc c).heap[w.heap.size + 1]? = some b ∧ (((w.alloc a).alloc b).alloc c).heap[w.heap.size + 1 + 1]? = some c := by
  have e1 : (w.alloc a).heap.size = w.heap.size + 1 := Array.size_push ..
  have e2 : ((w.alloc a).alloc b).heap.size = w.heap.size + 1 + 1 := by rw [← e1]; exact Array.size_push ..
  refine ⟨heap_old (heap_old (heap_new w a) b) c, ?_, ?_⟩
  · rw [← e1]; exact heap_old (heap_new (w.alloc a) b) c
  · rw [← e2]; exact heap_new ((w.alloc a).alloc b) c

theorem cell_other {w : World} {b o : Nat} {p : Addr} {u : Value} (h : p.block ≠ b) : (w.setCell ⟨b, o, none⟩ u).cell? p = w.cell? p := World.cell?_of_block (Below.heap_setCell _ _ _ _ h)

theorem Stops.keep {w w1 : World} {a : Option Addr} {ps : List St} {lo hi : Nat} (h : Stops w a ps) (hsz : w.heap.size ≤ w1.heap.size) (hc : ∀ p : Addr, p.block < lo ∨ hi ≤ p.block → w1.cell? p = w.cell? p) (ha : ∀ b o, a = some ⟨b, o, none⟩ → b < lo ∨ hi ≤ b) : Stops w1 a ps := by
  rcases h with h | ⟨b, o, e, hb, hcc⟩
  · exact Or.inl h
  · refine Or.inr ⟨b, o, e, by omega, fun i hi => ?_⟩
    have hbb := ha b o e
    rw [hc ⟨b, o + i * 3, none⟩ hbb, hc ⟨b, o + i * 3 + 1, none⟩ hbb, hc ⟨b, o + i * 3 + 2, none⟩ hbb]
    exact hcc i hi

end Tn
end Go.Proofs.YtaplbjoghkipdaaDoor

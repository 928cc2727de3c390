/- Contracts of the functions that draw parameters. -/
import Derived.Test.YtaplbjoghkipdaaDoorCur
namespace Go.Proofs.YtaplbjoghkipdaaDoor
namespace Cur
open Go.ChangeShapes Go.WideShapes Go.ChangeAt Go.RowKit
set_option linter.unusedSimpArgs false
set_option linter.unusedVariables false

/-- One of the six parameters of the draws. -/
def Listed (p q g : Int) : Prop := (p = 1213 ∧ q = 101 ∧ g = 457) ∨ (p = 4243 ∧ q = 101 ∧ g = 1630) ∨ (p = 240169 ∧ q = 10007 ∧ g = 205555) ∨ (p = 63353 ∧ q = 7919 ∧ g = 256) ∨ (p = 917519 ∧ q = 65537 ∧ g = 16384) ∨ (p = 36000109 ∧ q = 1000003 ∧ g = 31268764)

theorem cs_cell {w : World} {b : Nat} {cs : Array Value} {t : TypeId} {f : Nat × Nat} (h : w.heap[b]? = some (.cells cs t f)) (i : Nat) : w.cell? ⟨b, i, none⟩ = cs[i]? := by
  unfold World.cell?
  rw [h]
  simp

theorem cs_frozen {w : World} {b : Nat} {cs : Array Value} {t : TypeId} (h : w.heap[b]? = some (.cells cs t (0, 0))) (i : Nat) : w.frozen? ⟨b, i, none⟩ = false := by
  unfold World.frozen?
  rw [h]
  simp

theorem cs_two (w : World) (a b : Obj) : ((w.alloc a).alloc b).heap[w.heap.size]? = some a ∧ ((w.alloc a).alloc b).heap[w.heap.size + 1]? = some b := by
  constructor
  · show ((w.heap.push a).push b)[w.heap.size]? = some a
    rw [Array.getElem?_push_lt (by simp)]
    simp
  · show ((w.heap.push a).push b)[w.heap.size + 1]? = some b
    have h : ((w.heap.push a).push b)[(w.heap.push a).size]? = some b := Array.getElem?_push_size
    rwa [Array.size_push] at h

/-- A store into another block of the call's own is no part of the cursor. -/
theorem Is.set {W0 : World} {a : Option Addr} {n cap c : Nat} {w : World} (C : Is W0 a n cap c w) (b o : Nat) (v : Value) (hb : b ≠ c) (hg : W0.heap.size ≤ b) : Is W0 a n cap c (w.setCell ⟨b, o, none⟩ v) := by
  have hk : ∀ i, (w.setCell ⟨b, o, none⟩ v).cell? ⟨c, i, none⟩ = w.cell? ⟨c, i, none⟩ := fun i => World.cell?_setCell_other _ _ _ _ (by simp [Ne.symm hb])
  refine ⟨C.below.setCell hg _, C.ge, by rw [World.size_setCell]; exact C.lt, C.len, C.code, ?_, ?_, ?_, ?_, ?_⟩
  · rw [hk]; exact C.cb
  · obtain ⟨i, h1, h2⟩ := C.ci
    exact ⟨i, h1, by rw [hk]; exact h2⟩
  · obtain ⟨h0, h2⟩ := C.ch
    exact ⟨h0, by rw [hk]; exact h2⟩
  · rw [World.frozen?_setCell]; exact C.fi
  · rw [World.frozen?_setCell]; exact C.fh

/-- All blocks that were there but block c are as they were. -/
structure Kb (c : Nat) (w w1 : World) : Prop where
  size : w.heap.size ≤ w1.heap.size
  block : ∀ k, k < w.heap.size → k ≠ c → w1.heap[k]? = w.heap[k]?

theorem Kb.refl (c : Nat) (w : World) : Kb c w w := ⟨Nat.le_refl _, fun _ _ _ => rfl⟩

theorem Kb.trans {c : Nat} {w w1 w2 : World} (h : Kb c w w1) (g : Kb c w1 w2) : Kb c w w2 :=
  ⟨Nat.le_trans h.size g.size, fun k hk hc => (g.block k (Nat.lt_of_lt_of_le hk h.size) hc).trans (h.block k hk hc)⟩

theorem Kb.moved {c : Nat} {w w1 : World} (M : Moved c w w1) : Kb c w w1 := ⟨by rw [M.size]; exact Nat.le_refl _, fun k _ hc => M.block k hc⟩

theorem Kb.of (c : Nat) {w w1 : World} (L : Below w.heap.size w w1) : Kb c w w1 := ⟨L.size, fun k hk _ => L.block k hk⟩

theorem Kb.alloc {c : Nat} {w w1 : World} (h : Kb c w w1) (o : Obj) : Kb c w (w1.alloc o) := h.trans (Kb.of c ((Below.refl _ _).alloc (Nat.le_refl _) _))

theorem Kb.set {c : Nat} {w w1 : World} (h : Kb c w w1) (b o : Nat) (v : Value) (hb : w.heap.size ≤ b) : Kb c w (w1.setCell ⟨b, o, none⟩ v) :=
  ⟨by rw [World.size_setCell]; exact h.size, fun k hk hc => by rw [Below.heap_setCell w1 ⟨b, o, none⟩ v k (show k ≠ b by omega)]; exact h.block k hk hc⟩

theorem Kb.grown {c : Nat} {w w1 w2 : World} {row : Option Nat} (h : Kb c w w1) (G : w1.grownBy w2 row) (hr : ∀ k, row = some k → w.heap.size ≤ k) : Kb c w w2 :=
  ⟨Nat.le_trans h.size G.size, fun k hk hc => by rw [G.block k (Nat.lt_of_lt_of_le hk h.size) (fun e => by have := hr k e.symm; omega)]; exact h.block k hk hc⟩

theorem Kb.drew {c : Nat} {w w1 : World} (h : Kb c w w1) : Kb c w w1.drew := ⟨h.size, h.block⟩

theorem Kb.at {c : Nat} {w w1 : World} {k : Nat} {x : Obj} (h : Kb c w w1) (hc : k ≠ c) (m : w.heap[k]? = some x) : w1.heap[k]? = some x := by
  rw [h.block k (Array.getElem?_eq_some_iff.1 m).1 hc]
  exact m

end Cur
end Go.Proofs.YtaplbjoghkipdaaDoor

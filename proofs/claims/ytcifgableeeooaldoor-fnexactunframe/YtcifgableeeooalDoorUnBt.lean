/- All blocks that were there, but one, are as they were. -/
import Derived.Test.YtcifgableeeooalDoorUnNumI
import Derived.Test.YtcifgableeeooalDoorPkFix
namespace Go.Proofs.YtcifgableeeooalDoor
namespace Pk
open Go.ChangeShapes Go.WideShapes Go.ChangeAt Go.RowKit
set_option linter.unusedSimpArgs false
set_option linter.unusedVariables false

structure Bt (c : Nat) (w w' : World) : Prop where
  os : w'.os = w.os
  tape : w'.tape = w.tape
  output : w'.output = w.output
  size : w.heap.size ≤ w'.heap.size
  block : ∀ k, k < w.heap.size → k ≠ c → w'.heap[k]? = w.heap[k]?

theorem Bt.refl (c : Nat) (w : World) : Bt c w w := ⟨rfl, rfl, rfl, Nat.le_refl _, fun _ _ _ => rfl⟩

theorem Bt.trans {c : Nat} {a b d : World} (h : Bt c a b) (g : Bt c b d) : Bt c a d :=
  ⟨g.os.trans h.os, g.tape.trans h.tape, g.output.trans h.output, Nat.le_trans h.size g.size, fun k hk hc => (g.block k (Nat.lt_of_lt_of_le hk h.size) hc).trans (h.block k hk hc)⟩

theorem Bt.of {c B : Nat} {w w' : World} (M : Mv c w w') (L : Below B w w') : Bt c w w' := ⟨L.os, L.tape, L.output, Nat.le_of_eq M.1.symm, fun k _ hc => M.2 k hc⟩

theorem Bt.on {c : Nat} {w w' : World} (L : Below w.heap.size w w') : Bt c w w' := ⟨L.os, L.tape, L.output, L.size, fun k hk _ => L.block k hk⟩

theorem Bt.alloc {c : Nat} {a w : World} (h : Bt c a w) (o : Obj) : Bt c a (w.alloc o) := h.trans (Bt.on (new_below w o))

theorem Bt.set {c : Nat} {a w : World} (h : Bt c a w) (i : Nat) (u : Value) : Bt c a (w.setCell ⟨c, i, none⟩ u) := by
  have L := (Below.refl 0 w).setCell (p := ⟨c, i, none⟩) (Nat.zero_le _) u
  refine h.trans ⟨L.os, L.tape, L.output, by rw [World.size_setCell]; exact Nat.le_refl _, fun k _ hc => Below.heap_setCell w ⟨c, i, none⟩ u k hc⟩

theorem Bt.below {c B : Nat} {w w' : World} (h : Bt c w w') (hB : B ≤ c) (h2 : B ≤ w.heap.size) : Below B w w' := ⟨h.os, h.tape, h.output, h.size, fun k hk => h.block k (by omega) (by omega)⟩

theorem Bt.keep {c b : Nat} {w w' : World} {x : Obj} (h : Bt c w w') (m : w.heap[b]? = some x) (hne : b ≠ c) : w'.heap[b]? = some x := (h.block b (lt_of m) hne).trans m

theorem Bt.own {c : Nat} {w w' : World} {base e z n : Nat} {v : Value} {xs : List Value} (h : Bt c w w') (O : w.ownsRow base e z v n xs) (hne : v.ownBlock ≠ some c) : w'.ownsRow base e z v n xs := by
  obtain ⟨hl, h2⟩ := O
  refine ⟨hl, ?_⟩
  rcases h2 with h2 | ⟨g', cap', cur, hv, hg, hh, h1, h3, h4, h5⟩
  · exact Or.inl h2
  · subst hv
    have hne2 : g' ≠ c := fun e => hne (by rw [e]; rfl)
    exact Or.inr ⟨g', cap', cur, rfl, hg, h.keep hh hne2, h1, h3, h4, h5⟩

theorem Bt.runs {c : Nat} {w w' : World} (h : Bt c w w') (R : Runs w) (hne : 0 ≠ c) : Runs w' := by
  intro i hi
  rw [World.cell?_of_block (a := ⟨0, i, none⟩) (h.block _ R.lt hne)]
  exact R i hi

theorem RdI.lt {c : Nat} {s : ByteArray} {a : Nat} {v : Value} {w : World} (h : RdI c s a v w) : c < w.heap.size := lt_of h

theorem RdI.alloc {c : Nat} {s : ByteArray} {a : Nat} {v : Value} {w : World} (h : RdI c s a v w) (o : Obj) : RdI c s a v (w.alloc o) := heap_old h o

end Pk
end Go.Proofs.YtcifgableeeooalDoor

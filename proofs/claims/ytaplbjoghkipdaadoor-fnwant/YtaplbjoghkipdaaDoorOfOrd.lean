/- Contracts of the laws' own helpers over orders: their size, a copy, two of them held against each other; an order that came in. -/
import Derived.Test.YtaplbjoghkipdaaDoorOfRides
import Derived.Deep.Slices
import Derived.Deep.Strs
import Derived.Lib.SmallJoins
namespace Go.Proofs.YtaplbjoghkipdaaDoor
namespace Od
open Go.ChangeShapes Go.WideShapes Go.ChangeAt Go.RowKit Go.Joins
open Pk (new_below join_below cell_at heap_new frozen_at lt_of kept heap_old info_of Room)
open Rd (Ri Rides)
set_option linter.unusedSimpArgs false
set_option linter.unusedVariables false

/-- An order, its rides aside. -/
structure Hd where
  id : Int
  st : Int
  nm : ByteArray
  cl : Int
  ca : Int
  pr : Int
  pa : Int
  fi : Int

/-- An order. -/
structure Oo where
  h : Hd
  l : List Ri

/-- An order as a value. -/
abbrev odV (t : Hd) (a : Option Addr) (n cap : Nat) : Value := .agg #[.int .i64 t.id, .int .i64 t.st, .string t.nm, .int .i64 t.cl, .int .i64 t.ca, .slice a n cap, .int .i64 t.pr, .int .i64 t.pa, .int .i64 t.fi]

/-- An order in a block of its own. -/
abbrev odB (t : Hd) (a : Option Addr) (n cap : Nat) (ty : TypeId) : Obj := .cells #[.int .i64 t.id, .int .i64 t.st, .string t.nm, .int .i64 t.cl, .int .i64 t.ca, .slice a n cap, .int .i64 t.pr, .int .i64 t.pa, .int .i64 t.fi] ty

theorem named {P : Program} {f : FuncId} {args : Array Value} {w : World} {post : Ending → World → Prop} (h : ∀ W, W = w → Calls P f args W post) : Calls P f args w post := h w rfl

theorem three_blocks (w : World) (a b c : Obj) : (((w.alloc a).alloc b).alloc c).heap[w.heap.size]? = some a ∧ (((w.alloc a).alloc b).alloc c).heap[w.heap.size + 1]? = some b ∧ (((w.alloc a).alloc b).alloc c).heap[w.heap.size + 1 + 1]? = some c := by
  have e1 : (w.alloc a).heap.size = w.heap.size + 1 := Array.size_push ..
  have e2 : ((w.alloc a).alloc b).heap.size = w.heap.size + 1 + 1 := by rw [← e1]; exact Array.size_push ..
  refine ⟨heap_old (heap_old (heap_new w a) b) c, ?_, ?_⟩
  · rw [← e1]; exact heap_old (heap_new (w.alloc a) b) c
  · rw [← e2]; exact heap_new ((w.alloc a).alloc b) c

theorem cell_other {w : World} {b o : Nat} {p : Addr} {u : Value} (h : p.block ≠ b) : (w.setCell ⟨b, o, none⟩ u).cell? p = w.cell? p := World.cell?_of_block (Below.heap_setCell _ _ _ _ h)

end Od
end Go.Proofs.YtaplbjoghkipdaaDoor

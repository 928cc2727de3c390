/- Contracts of the laws' own helpers over orders: their size, a copy, two of them held against each other; an order that came in. -/
import Derived.Test.YtmoinacceildcaaGreatDoorOfRides
import Derived.Deep.Slices
import Derived.Deep.Strs
import Derived.Lib.SmallJoins
namespace Go.Proofs.YtmoinacceildcaaGreatDoor
namespace Od
open Go.ChangeShapes Go.WideShapes Go.ChangeAt Go.RowKit Go.Joins
open Pk (new_below join_below cell_at heap_new frozen_at lt_of kept heap_old info_of Room)
open Rd (Ri Rides)
set_option linter.unusedSimpArgs false
set_option linter.unusedVariables false

/-- An order, its rides aside. -/
structure Hd where
  id : Int
  st : Int
  nm : ByteArray
  cl : Int
  ca : Int
  pr : Int
  pa : Int
  fi : Int

/-- An order. -/
structure Oo where
  h : Hd
  l : List Ri

/-- An order as a value. -/
abbrev odV (t : Hd) (a : Option Addr) (n cap : Nat) : Value := .agg #[.int .i64 t.id, .int .i64 t.st, .string t.nm, .int .i64 t.cl, .int .i64 t.ca, .slice a n cap, .int .i64 t.pr, .int .i64 t.pa, .int .i64 t.fi]

/-- An order in a block of its own. -/
abbrev odB (t : Hd) (a : Option Addr) (n cap : Nat) (ty : TypeId) : Obj := .cells #[.int .i64 t.id, .int .i64 t.st, .string t.nm, .int .i64 t.cl, .int .i64 t.ca, .slice a n cap, .int .i64 t.pr, .int .i64 t.pa, .int .i64 t.fi] ty

theorem named {P : Program} {f : FuncId} {args : Array Value} {w : World} {post : Ending → World → Prop} (h : ∀ W, W = w → Calls P f args W post) : Calls P f args w post := h w rfl

theorem three_blocks (w : World) (a b c : Obj) : (((w.alloc a).alloc b).alloc c).heap[w.heap.size]? = some a ∧ (((w.alloc a).alloc b).alloc c).heap[w.heap.size + 1]? = some b ∧ (((w.alloc a).alloc b).alloc c).heap[w.heap.size + 1 + 1]? = some c := by
  have e1 : (w.alloc a).heap.size = w.heap.size + 1 := Array.size_push ..
  have e2 : ((w.alloc a).alloc b).heap.size = w.heap.size + 1 + 1 := by rw [← e1]; exact Array.size_push ..
  refine ⟨heap_old (heap_old (heap_new w a) b) c, ?_, ?_⟩
  · rw [← e1]; exact heap_old (heap_new (w.alloc a) b) c
  · rw [← e2]; exact heap_new ((w.alloc a).alloc b) c

theorem cell_other {w : World} {b o : Nat} {p : Addr} {u : Value} (h : p.block ≠ b) : (w.setCell ⟨b, o, none⟩ u).cell? p = w.cell? p := World.cell?_of_block (Below.heap_setCell _ _ _ _ h)

theorem eqOrder_same (t : Hd) (a b : Option Addr) (ls : List Ri) (c1 c2 : Nat) (w : World) (hz : ls.length ≤ 1048576) (I : Rides w a ls) (J : Rides w b ls) :
    Calls Tryz.prog 121 #[odV t a ls.length c1, odV t b ls.length c2] w fun e w' => e = .returned (.bool true) ∧ Below w.heap.size w w' := by
  have N := join_below (new_below w (odB t a ls.length c1 101)) (new_below _ (odB t b ls.length c2 101))
  have m0 := heap_old (heap_new w (odB t a ls.length c1 101)) (odB t b ls.length c2 101)
  have m1 := heap_new (w.alloc (odB t a ls.length c1 101)) (odB t b ls.length c2 101)
  have HE : Hid (∀ w, Rides w a ls → Rides w b ls → _) := fun w h1 h2 => Rd.eqRideS_same a b ls c1 c2 w hz h1 h2
  have I1 := I.on N
  have J1 := J.on N
  go_enter Tryz.func121, Tryz.ntmps121
  go_wp2_with fail
  refine named fun W3 hW => ?_
  rw [← hW] at N m0 m1 I1 J1
  have e1 : (w.alloc (odB t a ls.length c1 101)).heap.size = w.heap.size + 1 := Array.size_push ..
  rw [e1] at m1
  clear hW
  refine (HE.out _ I1 J1).mono ?_
  rintro e w1 ⟨rfl, L1⟩
  have n0 := kept L1 (lt_of m0) m0
  have n1 := kept L1 (lt_of m1) m1
  have x6 : w1.cell? ⟨w.heap.size, 6, none⟩ = some (.int .i64 t.pr) := cell_at n0 6
  have y6 : w1.cell? ⟨w.heap.size + 1, 6, none⟩ = some (.int .i64 t.pr) := cell_at n1 6
  have x7 : w1.cell? ⟨w.heap.size, 7, none⟩ = some (.int .i64 t.pa) := cell_at n0 7
  have y7 : w1.cell? ⟨w.heap.size + 1, 7, none⟩ = some (.int .i64 t.pa) := cell_at n1 7
  have x8 : w1.cell? ⟨w.heap.size, 8, none⟩ = some (.int .i64 t.fi) := cell_at n0 8
  have y8 : w1.cell? ⟨w.heap.size + 1, 8, none⟩ = some (.int .i64 t.fi) := cell_at n1 8
  have L2 := join_below N L1
  clear n0 n1 m0 m1 I1 J1 HE N L1
  go_wp2
  go_ret
  exact ⟨rfl, L2⟩

end Od
end Go.Proofs.YtmoinacceildcaaGreatDoor

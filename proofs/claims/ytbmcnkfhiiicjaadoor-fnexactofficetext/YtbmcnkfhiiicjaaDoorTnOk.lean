/- Contracts of TrainOk and of what it calls, of the program and of its model; of the number of a stop at a station. -/
import Derived.Test.YtbmcnkfhiiicjaaDoorMathTn
namespace Go.Proofs.YtbmcnkfhiiicjaaDoor
namespace Tn
open Go.ChangeShapes Go.WideShapes Go.ChangeAt Go.RowKit
open Pk (new_below join_below cell_at heap_new frozen_at lt_of kept heap_old)
set_option linter.unusedSimpArgs false
set_option linter.unusedVariables false

/-- A train as a value, and its box. -/
abbrev trV (t : Hd) (a : Option Addr) (n cap : Nat) : Value := .agg #[.int .i64 t.id, .int .i64 t.dy, .int .i64 t.co, .int .i64 t.se, .slice a n cap]
abbrev trB (t : Hd) (a : Option Addr) (n cap : Nat) (ty : TypeId) : Obj := .cells #[.int .i64 t.id, .int .i64 t.dy, .int .i64 t.co, .int .i64 t.se, .slice a n cap] ty

end Tn
end Go.Proofs.YtbmcnkfhiiicjaaDoor

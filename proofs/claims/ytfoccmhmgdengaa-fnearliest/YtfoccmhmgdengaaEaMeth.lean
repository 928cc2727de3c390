/- The methods of the program's heap of ways, reached through the interface of container/heap. -/
import Derived.Test.YtfoccmhmgdengaaPkRow
import Derived.ChangeKeysEq
namespace Go.Proofs.Ytfoccmhmgdengaa
namespace Rd
open Go.ChangeShapes Go.WideShapes Go.ChangeAt Go.RowKit
open Pk (new_below join_below cell_at heap_new lt_of kept)
set_option linter.unusedSimpArgs false
set_option linter.unusedVariables false

theorem meth_push (a : Addr) (w : World) : (Go.method 252 94 (.pointer (some a)) "Push").run Try.prog w = .ok (100, .pointer (some a)) w := by kernel_rfl

theorem meth_pop (a : Addr) (w : World) : (Go.method 252 94 (.pointer (some a)) "Pop").run Try.prog w = .ok (99, .pointer (some a)) w := by kernel_rfl

theorem row_len : (Try.prog.info? 94).map (fun i => (i.methods.find? (fun m => m.name == "Len")).map fun m => (m.path, m.func)) = some (some (#[], some (52, false))) := by kernel_rfl
theorem row_less : (Try.prog.info? 94).map (fun i => (i.methods.find? (fun m => m.name == "Less")).map fun m => (m.path, m.func)) = some (some (#[], some (98, false))) := by kernel_rfl
theorem row_swap : (Try.prog.info? 94).map (fun i => (i.methods.find? (fun m => m.name == "Swap")).map fun m => (m.path, m.func)) = some (some (#[], some (101, false))) := by kernel_rfl

/-- A method that takes the heap itself, called at a pointer to it. -/
theorem meth_of {name : String} {f : Nat} {b : Nat} {v : Value} {w : World} (hr : (Try.prog.info? 94).map (fun i => (i.methods.find? (fun m => m.name == name)).map fun m => (m.path, m.func)) = some (some (#[], some (f, false)))) (h : w.cell? ⟨b, 0, none⟩ = some v) : (Go.method 252 94 (.pointer (some ⟨b, 0, none⟩)) name).run Try.prog w = .ok (f, v) w := by
  obtain ⟨i, hi, hm⟩ := Option.map_eq_some_iff.1 hr
  obtain ⟨m, hf, hp⟩ := Option.map_eq_some_iff.1 hm
  simp only [Prod.mk.injEq] at hp
  have hc : ∀ n : String, (Builtin.ssaWrapNilChk_ #[94] 94 #[.pointer (some ⟨b, 0, none⟩), strVal "", strVal n]).run Try.prog w = .ok (.pointer (some ⟨b, 0, none⟩)) w := fun n => by kernel_rfl
  have hs : (isAgg 96).run Try.prog w = .ok false w := by kernel_rfl
  have hl : (loadVar 96 ⟨b, 0, none⟩).run Try.prog w = .ok v w := by
    unfold loadVar
    simp [hs, Result.andThen, go_sem, h]
  unfold Go.method
  simp [run_typeInfo w hi, hf, hp.1, hp.2, Result.andThen, follow, receiverAt, run_underlying Try.underlying94, Place.get, hc, asAddr, hl]

theorem meth_len {b : Nat} {v : Value} {w : World} (h : w.cell? ⟨b, 0, none⟩ = some v) : (Go.method 252 94 (.pointer (some ⟨b, 0, none⟩)) "Len").run Try.prog w = .ok (52, v) w := meth_of row_len h
theorem meth_less {b : Nat} {v : Value} {w : World} (h : w.cell? ⟨b, 0, none⟩ = some v) : (Go.method 252 94 (.pointer (some ⟨b, 0, none⟩)) "Less").run Try.prog w = .ok (98, v) w := meth_of row_less h
theorem meth_swap {b : Nat} {v : Value} {w : World} (h : w.cell? ⟨b, 0, none⟩ = some v) : (Go.method 252 94 (.pointer (some ⟨b, 0, none⟩)) "Swap").run Try.prog w = .ok (101, v) w := meth_of row_swap h

end Rd
end Go.Proofs.Ytfoccmhmgdengaa

/- The contracts of Unpack's deferred closure: of a frame that panics with a fault, of one that returns. -/
import Derived.Test.YtcifgableeeooalDoorUnRefuse
import Derived.Defers
import Derived.Recover
import Derived.Laws.Pointers
namespace Go.Proofs.YtcifgableeeooalDoor
namespace Pk
open Go.ChangeShapes Go.WideShapes Go.ChangeAt Go.RowKit
set_option linter.unusedSimpArgs false
set_option linter.unusedVariables false

set_option maxRecDepth 100000 in
theorem told_yes (t : TypeId) (k : Int) (w : World) : (Instr.typeAssert (.iface 58 (.int .i64 k)) t 58 true).run Tryd.prog w = .ok (.tuple #[.int .i64 k, .bool true]) w := by rfl

set_option maxRecDepth 100000 in
theorem told_no (t : TypeId) (w : World) : (Instr.typeAssert .nilIface t 58 true).run Tryd.prog w = .ok (.tuple #[.int .i64 0, .bool false]) w := by rfl

set_option maxRecDepth 100000 in
set_option maxHeartbeats 400000 in
theorem catch_fault (p q : Addr) (x : ByteArray) (y k : Int) (w : World) (hp : w.cell? p = some (.string x)) (hp2 : w.frozen? p = false) (hq : (w.setCell p (.string ⟨#[]⟩)).cell? q = some (.int .i64 y)) (hq2 : (w.setCell p (.string ⟨#[]⟩)).frozen? q = false) :
    CallsD Tryd.prog 29 #[.pointer (some p), .pointer (some q)] (.panicking [{ v := .iface 58 (.int .i64 k), recovered := false }]) w fun e u' w' =>
      e = .returned (.tuple #[]) ∧ u' = .panicking [{ v := .iface 58 (.int .i64 k), recovered := true }] ∧ w' = (w.setCell p (.string ⟨#[]⟩)).setCell q (.int .i64 k) := by
  refine callsD_of_wpS Tryd.func29 rfl fun c₀ cs hu => ?_
  apply wpS_seq
  apply wpS_region
  simp [wpOpsS, go_sem, recoverD, hu, told_yes, told_no, Tryd.ntmps29, Exit.thenS, Array.replicate, List.replicate]
  apply wpS_seq
  apply wpS_region
  simp [wpOpsS, go_sem, Exit.thenS]
  refine wpS_cond (t := true) (by simp [Act.eval]) ?_
  simp only [if_true]
  apply wpS_region
  simp [wpOpsS, go_sem, hp, hp2, hq, hq2, bodyPostS, results, Tryd.results29]

set_option maxRecDepth 100000 in
set_option maxHeartbeats 400000 in
theorem catch_none (p q : Addr) (w : World) :
    CallsD Tryd.prog 29 #[.pointer (some p), .pointer (some q)] .returning w fun e u' w' => e = .returned (.tuple #[]) ∧ u' = .returning ∧ w' = w := by
  refine callsD_of_wpS Tryd.func29 rfl fun c₀ cs hu => ?_
  apply wpS_seq
  apply wpS_region
  simp [wpOpsS, go_sem, recoverD, hu, told_yes, told_no, Tryd.ntmps29, Exit.thenS, Array.replicate, List.replicate]
  apply wpS_seq
  apply wpS_region
  simp [wpOpsS, go_sem, Exit.thenS]
  refine wpS_cond (t := false) (by simp [Act.eval]) ?_
  simp only [Bool.false_eq_true, if_false]
  refine wpS_of_wp (wp_skip ?_)
  cases c₀
  simp_all [bodyPostS, results, Tryd.results29]

end Pk
end Go.Proofs.YtcifgableeeooalDoor

/- errors.Is by its contracts, for what the program hands it: the very error of a variable, and nil. Go's own text of errors.Is is walked. -/
import Derived.Test.YtllmmelnkkmfoaaDoorRows
import Derived.WalkKit
import Derived.LaidEql
import Derived.Stop.Asserts
import Derived.RowKitTokens
namespace Go.Proofs.YtllmmelnkkmfoaaDoor
namespace Num
open Go.RowKit Go.Extern.Stop Go.Stop Go.Extern

theorem isTypeOf (v : Value) (w : World) : (Extern.ReflectliteType.typeOf #[.iface 123 v]).run Tryd.prog w = .ok (.iface 100 (.agg #[.pointer (some ⟨9, 123, none⟩)])) w := by kernel_rfl

theorem isComparable (w : World) : (callFunc 103 #[.agg #[.pointer (some ⟨9, 123, none⟩)]]).run Tryd.prog w = .ok (Next.value (.bool true)) w := by
  rw [@run_callFunc_extern Tryd.prog 103 _ (Extern.ReflectliteType.method fun t => do Go.Extern.Rtype.noPackHeld "Comparable" t; pure (.bool (← typeInfo t).comparable)) Tryd.func103 (by kernel_rfl) (by kernel_rfl) (by kernel_rfl) (by kernel_rfl)]
  kernel_rfl

theorem isMethodComparable (v : Value) (w : World) : (Go.method 259 100 v "Comparable").run Tryd.prog w = .ok (103, v) w := by kernel_rfl

theorem isComp : (Tryd.prog.info? 123).map (·.comparable) = some true := by kernel_rfl

theorem isSize : (Tryd.prog.info? 147).map (·.size) = some 1 := by kernel_rfl

set_option maxRecDepth 100000 in
/-- errors.Is(x, x), x a pointer to an errors.errorString. -/
theorem is_same (a : Addr) (w : World) :
    Calls Tryd.prog 34 #[.iface 123 (.pointer (some a)), .iface 123 (.pointer (some a))] w fun e w' => e = .returned (.bool true) ∧ w' = w := by
  obtain ⟨i, hi, hcmp⟩ := Option.map_eq_some_iff.1 isComp
  obtain ⟨j, hj, hjs⟩ := Option.map_eq_some_iff.1 isSize
  have h8 := @run_callFunc_extern Tryd.prog 60 _ Extern.ReflectliteType.typeOf Tryd.func60 (by kernel_rfl) (by kernel_rfl) (by kernel_rfl) (by kernel_rfl)
  have tT := isTypeOf
  have cT := isComparable
  have mR := isMethodComparable
  have heq := run_eql_iface_ptr_same (P := Tryd.prog) w a Tryd.underlying56 Tryd.underlying123 hi hcmp hj
  go_enter Tryd.func34, Tryd.ntmps34
  go_wp2
  refine wp_loop_rounds 1 ?_
  rw [rounds_succ]
  go_wp2
  go_ret
  exact ⟨rfl, rfl⟩

set_option maxRecDepth 100000 in
/-- errors.Is(nil, x). -/
theorem is_nil (b : Addr) (w : World) :
    Calls Tryd.prog 34 #[.nilIface, .iface 123 (.pointer (some b))] w fun e w' => e = .returned (.bool false) ∧ w' = w := by
  have hn := run_eql_iface_nil_left (P := Tryd.prog) w 123 (.pointer (some b)) Tryd.underlying56
  go_enter Tryd.func34, Tryd.ntmps34
  go_wp2
  go_ret
  exact ⟨rfl, rfl⟩

end Num
end Go.Proofs.YtllmmelnkkmfoaaDoor

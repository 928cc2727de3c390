/- Squares compared. -/
import Derived.Test.YtkhibgicejcmlamSqFour
import Derived.Test.YtkhibgicejcmlamSqHeart2
import Derived.Test.YtkhibgicejcmlamSqDark
import Derived.Test.YtkhibgicejcmlamSqTurnBy
import Derived.Laws.StructEq
namespace Go.Proofs.Ytkhibgicejcmlam
namespace Sq
open Go.ChangeShapes Go.WideShapes Go.ChangeAt Go.RowKit
set_option linter.unusedSimpArgs false
set_option linter.unusedVariables false

theorem neq_same (n : Int) (s : ByteArray) (w : World) : (binOp .neq 25 (.agg #[.int .i64 n, .string s]) (.agg #[.int .i64 n, .string s])).run Try.prog w = .ok (.bool false) w := by
  rw [run_neq_struct, run_equalIn_struct w 9999 25 _ _ (by kernel_rfl) (by kernel_rfl)]
  have hf : (Try.prog.fieldsOf 25).toList.map (fun f => (f.name == "_", f.type, f.offset)) = [(false, 3, 0), (false, 9, 1)] := by kernel_rfl
  generalize (Try.prog.fieldsOf 25).toList = l at hf
  obtain ⟨f0, l, rfl, e0, hf⟩ := List.map_eq_cons_iff.1 hf
  obtain ⟨f1, l, rfl, e1, hf⟩ := List.map_eq_cons_iff.1 hf
  obtain rfl := List.map_eq_nil_iff.1 hf
  simp only [Prod.mk.injEq, beq_eq_false_iff_ne] at e0 e1
  obtain ⟨n0, t0, o0⟩ := e0
  obtain ⟨n1, t1, o1⟩ := e1
  simp only [Op.eqFields, if_pos n0, if_pos n1, t0, t1, o0, o1]
  simp [part, go_sem, Try.underlying3, Try.underlying9, run_equalIn_int, Result.andThen]

end Sq
end Go.Proofs.Ytkhibgicejcmlam

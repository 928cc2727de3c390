/- The program's Paint, whatever the text. -/
import Derived.Test.YtkhibgicejcmlamSqPaintP
namespace Go.Proofs.Ytkhibgicejcmlam
namespace Sq
open Go.ChangeShapes Go.WideShapes Go.ChangeAt Go.RowKit
set_option linter.unusedSimpArgs false
set_option linter.unusedVariables false

theorem implPaint_val (s : ByteArray) (w : World) (hs : s.size ≤ maxLen) :
    Calls Try.prog 17 #[.string s] w fun e w' => e = .returned (.tuple #[sqV (pnV s) (ptV s), .bool (decide (s.size ≤ 400))]) ∧ Below w.heap.size w w' := by
  unfold pnV ptV
  by_cases h : s.size ≤ 400
  · rw [if_pos h, if_pos h, decide_eq_true h]
    exact implPaint_ok s w h
  · rw [if_neg h, if_neg h, decide_eq_false h]
    unfold maxLen at hs
    have N := Pk.new_below w (.cells #[.int .i64 0, .string ⟨#[]⟩] 25)
    have m0 : Box (w.alloc (.cells #[.int .i64 0, .string ⟨#[]⟩] 25)) w.heap.size 0 ⟨#[]⟩ := Pk.heap_new w _
    have d0 := m0.n
    have d1 := m0.s
    have f0 := m0.f 0
    have f1 := m0.f 1
    unfold sqV
    go_enter Try.func17, Try.ntmps17
    go_wp2
    refine bodyPost_ret (v := .tuple #[.agg #[.int .i64 0, .string ⟨#[]⟩], .bool false]) (by simp [results, Try.results17, go_sem, d0, d1]) rfl ?_
    exact ⟨rfl, N⟩

end Sq
end Go.Proofs.Ytkhibgicejcmlam

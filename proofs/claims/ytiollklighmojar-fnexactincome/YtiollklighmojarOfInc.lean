/- Contracts of Income, of the program and of its model. -/
import Derived.Test.YtiollklighmojarOfOff
namespace Go.Proofs.Ytiollklighmojar
namespace Of
open Go.ChangeShapes Go.WideShapes Go.ChangeAt Go.RowKit Go.Joins
open Pk (new_below join_below cell_at heap_new frozen_at lt_of kept heap_old info_of Room)
set_option linter.unusedSimpArgs false
set_option linter.unusedVariables false

/-- The sum of what was paid for the first k orders. -/
def incTo (l : List Od.Oo) : Nat → Int
  | 0 => 0
  | k + 1 => wrap64 (incTo l k + (l.getD k ⟨⟨0, 0, ByteArray.empty, 0, 0, 0, 0, 0⟩, []⟩).h.pa)

theorem incTo_step (l : List Od.Oo) (k : Nat) (h : k < l.length) : incTo l (k + 1) = wrap64 (incTo l k + l[k].h.pa) := by
  show wrap64 (incTo l k + (l.getD k _).h.pa) = _
  rw [List.getD_eq_getElem?_getD, List.getElem?_eq_getElem h, Option.getD_some]

set_option maxHeartbeats 1000000 in
theorem implIncome_val (x : Pl) (o : Offc) (w : World) (hl : o.od.length ≤ maxLen) (I : In w x o) :
    Calls Try.prog 12 #[ofV x o] w fun e w' => e = .returned (.int .i64 (incTo o.od o.od.length)) ∧ Below w.heap.size w w' := by
  unfold maxLen at hl
  have N := new_below w (ofB x o 37)
  have I0 := I.od.on N
  go_enter Try.func12, Try.ntmps12
  go_wp2
  generalize w.alloc (ofB x o 37) = W at *
  go_loopw [3, 9] (fun s i wr => ∃ k : Nat, k ≤ o.od.length ∧ i = .int .i64 k ∧ s = .int .i64 (incTo o.od k) ∧ Below W.heap.size W wr) (fun _ i _ => o.od.length - (intOf i).toNat)
  case atStart => exact ⟨0, by omega, rfl, rfl, Below.refl _ _⟩
  case round =>
    obtain ⟨k, hk, rfl, rfl, L⟩ := hrel
    by_cases hkn : k < o.od.length
    · obtain ⟨b, u, ai, ci, ha, hlt, c0, c1, c2, c3, c4, c6, c7, c8, c5, J⟩ := (I0.on L).at k hkn
      have HS : Hid (Value.int .i64 (wrap64 (incTo o.od k + o.od[k].h.pa)) = .int .i64 (incTo o.od (k + 1))) := by show _ = _; rw [incTo_step _ _ hkn]
      have L2 := join_below L (new_below wr (Od.odB o.od[k].h ai o.od[k].l.length ci 61))
      rw [ha] at *
      generalize incTo o.od k = s at *
      generalize o.od[k].l.length = m at *
      generalize o.od[k].h = p at *
      go_wp2
      go_roundw
      case rel => exact ⟨k + 1, by omega, by go_num, HS.out, L2⟩
      case measure => simp [intOf]; omega
    · obtain rfl : k = o.od.length := by omega
      go_wp2
      go_ret
      exact ⟨rfl, join_below N L⟩

set_option maxRecDepth 100000 in
set_option maxHeartbeats 1000000 in
theorem specIncome_val (x : Pl) (o : Offc) (w : World) (hl : o.od.length ≤ maxLen) (I : In w x o) :
    Calls Try.prog 11 #[ofV x o] w fun e w' => e = .returned (.int .i64 (incTo o.od o.od.length)) ∧ Below w.heap.size w w' := by
  unfold maxLen at hl
  have N := new_below w (ofB x o 37)
  have m0 := heap_new w (ofB x o 37)
  have I0 := I.od.on N
  have q : (w.alloc (ofB x o 37)).cell? ⟨w.heap.size, 3, none⟩ = some (.slice x.a3 o.od.length x.c3) := cell_at m0 3
  have hlw := lt_of m0
  clear m0
  go_enter Try.func11, Try.ntmps11
  go_wp2
  generalize w.alloc (ofB x o 37) = W at *
  go_loopw [3, 4] (fun s i wr => ∃ k : Nat, k ≤ o.od.length ∧ i = .int .i64 k ∧ s = .int .i64 (incTo o.od k) ∧ Below W.heap.size W wr) (fun _ i _ => o.od.length - (intOf i).toNat)
  case atStart => exact ⟨0, by omega, rfl, rfl, Below.refl _ _⟩
  case round =>
    obtain ⟨k, hk, rfl, rfl, L⟩ := hrel
    have q1 : wr.cell? ⟨w.heap.size, 3, none⟩ = some (.slice x.a3 o.od.length x.c3) := by rw [L.cell (p := ⟨w.heap.size, 3, none⟩) hlw]; exact q
    by_cases hkn : k < o.od.length
    · obtain ⟨b, u, ai, ci, ha, hlt, c0, c1, c2, c3, c4, c6, c7, c8, c5, J⟩ := (I0.on L).at k hkn
      have HS : Hid (Value.int .i64 (wrap64 (incTo o.od k + o.od[k].h.pa)) = .int .i64 (incTo o.od (k + 1))) := by show _ = _; rw [incTo_step _ _ hkn]
      rw [ha] at q1
      generalize incTo o.od k = s at *
      generalize o.od[k].l.length = m at *
      generalize o.od[k].h = p at *
      clear q
      go_wp2
      go_roundw
      case rel => exact ⟨k + 1, by omega, by go_num, HS.out, L⟩
      case measure => simp [intOf]; omega
    · obtain rfl : k = o.od.length := by omega
      go_wp2
      go_ret
      exact ⟨rfl, join_below N L⟩

end Of
end Go.Proofs.Ytiollklighmojar

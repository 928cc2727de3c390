/- Contracts of TrainOk and of what it calls, of the program and of its model; of the number of a stop at a station. -/
import Derived.Test.YtaplbjoghkipdaaDoorMathTn
namespace Go.Proofs.YtaplbjoghkipdaaDoor
namespace Tn
open Go.ChangeShapes Go.WideShapes Go.ChangeAt Go.RowKit
open Pk (new_below join_below cell_at heap_new frozen_at lt_of kept heap_old)
set_option linter.unusedSimpArgs false
set_option linter.unusedVariables false

/-- A train as a value, and its box. -/
abbrev trV (t : Hd) (a : Option Addr) (n cap : Nat) : Value := .agg #[.int .i64 t.id, .int .i64 t.dy, .int .i64 t.co, .int .i64 t.se, .slice a n cap]
abbrev trB (t : Hd) (a : Option Addr) (n cap : Nat) (ty : TypeId) : Obj := .cells #[.int .i64 t.id, .int .i64 t.dy, .int .i64 t.co, .int .i64 t.se, .slice a n cap] ty

theorem between_val (x a b : Int) (w : World) :
    Calls Tryd.prog 16 #[.int .i64 x, .int .i64 a, .int .i64 b] w fun e w' => e = .returned (.bool (inB x a b)) ∧ w' = w := by
  by_cases h1 : a ≤ x <;> by_cases h2 : x ≤ b
  all_goals
    go_enter Tryd.func16, Tryd.ntmps16
    go_wp2
    go_ret
    exact ⟨by simp [inB, h1, h2], rfl⟩

theorem in_val (x a b : Int) (w : World) :
    Calls Tryd.prog 32 #[.int .i64 x, .int .i64 a, .int .i64 b] w fun e w' => e = .returned (.bool (inB x a b)) ∧ w' = w := by
  by_cases h1 : a ≤ x <;> by_cases h2 : x ≤ b
  all_goals
    go_enter Tryd.func32, Tryd.ntmps32
    go_wp2
    go_ret
    exact ⟨by simp [inB, h1, h2], rfl⟩

set_option maxHeartbeats 1000000 in
theorem specAt_val (t : Hd) (x : Int) (a : Option Addr) (l : List St) (cap : Nat) (w : World) (hl : l.length ≤ maxLen) (I : Stops w a l) :
    Calls Tryd.prog 65 #[trV t a l.length cap, .int .i64 x] w fun e w' => e = .returned (.int .i64 (idx l x 0)) ∧ Below w.heap.size w w' := by
  unfold maxLen at hl
  have N := new_below w (trB t a l.length cap 72)
  have m0 := heap_new w (trB t a l.length cap 72)
  have IN := I.on N
  generalize hW : w.alloc (trB t a l.length cap 72) = W at *
  have HW : Hid (_) := hW
  have c4 : W.cell? ⟨w.heap.size, 4, none⟩ = some (.slice a l.length cap) := cell_at m0 4
  clear m0
  go_enter Tryd.func65, Tryd.ntmps65
  go_wp2
  go_loop [5] (fun i => ∃ k : Nat, k ≤ l.length ∧ i = .int .i64 k ∧ Hid (∀ i (hi : i < l.length), i < k → l[i].st ≠ x)) (fun i => l.length - (intOf i).toNat)
  case atStart => exact ⟨0, by omega, rfl, fun i _ h => by omega⟩
  case round =>
    obtain ⟨k, hk, rfl, H⟩ := hrel
    by_cases hkn : k < l.length
    · obtain ⟨b, o, rfl, hlt, c0, c1, c2⟩ := IN.at k hkn
      by_cases e : l[k].st = x
      · have HE : Hid (idx l x 0 = k) := idx_at l x k H.out hkn e
        have e2 : (l[k].st == x) = true := beq_iff_eq.2 e
        clear e H
        go_wp2
        go_ret
        exact ⟨by rw [HE.out] <;> rfl, N⟩
      · have HE : Hid (∀ i (hi : i < l.length), i < k + 1 → l[i].st ≠ x) := by
          intro i hi hik
          by_cases h : i = k
          · subst h; exact e
          · exact H.out i hi (by omega)
        have e2 : (l[k].st == x) = false := beq_eq_false_iff_ne.2 e
        clear e H
        go_wp2
        go_round
        case rel => exact ⟨k + 1, by omega, by go_num, HE⟩
        case measure => simp [intOf]; omega
    · have HE : Hid (idx l x 0 = -1) := idx_none l x fun i hi => H.out i hi (by omega)
      clear H
      go_wp2
      go_ret
      exact ⟨by rw [HE.out] <;> rfl, N⟩

end Tn
end Go.Proofs.YtaplbjoghkipdaaDoor

/- Contracts of TrainOk and of what it calls, of the program and of its model; of the number of a stop at a station. -/
import Derived.Test.YtfoccmhmgdengaaMathTn
namespace Go.Proofs.Ytfoccmhmgdengaa
namespace Tn
open Go.ChangeShapes Go.WideShapes Go.ChangeAt Go.RowKit
open Pk (new_below join_below cell_at heap_new frozen_at lt_of kept heap_old)
set_option linter.unusedSimpArgs false
set_option linter.unusedVariables false

/-- A train as a value, and its box. -/
abbrev trV (t : Hd) (a : Option Addr) (n cap : Nat) : Value := .agg #[.int .i64 t.id, .int .i64 t.dy, .int .i64 t.co, .int .i64 t.se, .slice a n cap]
abbrev trB (t : Hd) (a : Option Addr) (n cap : Nat) (ty : TypeId) : Obj := .cells #[.int .i64 t.id, .int .i64 t.dy, .int .i64 t.co, .int .i64 t.se, .slice a n cap] ty

theorem between_val (x a b : Int) (w : World) :
    Calls Try.prog 29 #[.int .i64 x, .int .i64 a, .int .i64 b] w fun e w' => e = .returned (.bool (inB x a b)) ∧ w' = w := by
  by_cases h1 : a ≤ x <;> by_cases h2 : x ≤ b
  all_goals
    go_enter Try.func29, Try.ntmps29
    go_wp2
    go_ret
    exact ⟨by simp [inB, h1, h2], rfl⟩

theorem in_val (x a b : Int) (w : World) :
    Calls Try.prog 33 #[.int .i64 x, .int .i64 a, .int .i64 b] w fun e w' => e = .returned (.bool (inB x a b)) ∧ w' = w := by
  by_cases h1 : a ≤ x <;> by_cases h2 : x ≤ b
  all_goals
    go_enter Try.func33, Try.ntmps33
    go_wp2
    go_ret
    exact ⟨by simp [inB, h1, h2], rfl⟩

theorem stopOk_val (s : St) (w : World) :
    Calls Try.prog 76 #[lgV s] w fun e w' => e = .returned (.bool (stB s)) ∧ Below w.heap.size w w' := by
  obtain ⟨st, ar, dp⟩ := s
  unfold stB
  dsimp only
  have H1 : Hid (∀ w, _) := fun w => between_val st 1 9999 w
  have H2 : Hid (∀ w, _) := fun w => between_val ar 0 4000 w
  have H3 : Hid (∀ w, _) := fun w => between_val dp ar 4000 w
  generalize inB st 1 9999 = b1 at *
  generalize inB ar 0 4000 = b2 at *
  generalize inB dp ar 4000 = b3 at *
  have N := new_below w (.cells #[.int .i64 st, .int .i64 ar, .int .i64 dp] 42)
  go_enter Try.func76, Try.ntmps76
  go_wp2_with fail
  refine (H1.out _).mono ?_
  rintro e w1 ⟨rfl, rfl⟩
  cases b1
  · go_wp2
    go_ret
    exact ⟨rfl, N⟩
  go_wp2_with fail
  refine (H2.out _).mono ?_
  rintro e w1 ⟨rfl, rfl⟩
  cases b2
  · go_wp2
    go_ret
    exact ⟨rfl, N⟩
  go_wp2_with fail
  refine (H3.out _).mono ?_
  rintro e w1 ⟨rfl, rfl⟩
  go_wp2
  go_ret
  exact ⟨rfl, N⟩

theorem pred_val (s : St) (x : Int) (B : Nat) (w : World) (hB : B < w.heap.size) (hc : w.cell? ⟨B, 0, none⟩ = some (.int .i64 x)) :
    Calls Try.prog 62 #[lgV s, .pointer (some ⟨B, 0, none⟩)] w fun e w' => e = .returned (.bool (s.st == x)) ∧ Below w.heap.size w w' := by
  have hne : B ≠ w.heap.size := by omega
  go_enter Try.func62, Try.ntmps62
  go_wp2
  go_ret
  exact ⟨rfl, new_below _ _⟩

set_option maxHeartbeats 1000000 in
theorem indexFunc_val (B : Nat) (x : Int) (a : Option Addr) (l : List St) (cap : Nat) (w : World) (hl : l.length ≤ maxLen) (hB : B < w.heap.size) (hc : w.cell? ⟨B, 0, none⟩ = some (.int .i64 x)) (I : Stops w a l) :
    Calls Try.prog 61 #[.slice a l.length cap, .func (.func 62) #[] #[.pointer (some ⟨B, 0, none⟩)]] w fun e w' => e = .returned (.int .i64 (idx l x 0)) ∧ Below w.heap.size w w' := by
  unfold maxLen at hl
  go_enter Try.func61, Try.ntmps61
  go_wp2
  go_loopw [8] (fun i wr => ∃ k : Nat, k ≤ l.length ∧ i = .int .i64 k ∧ Below w.heap.size w wr ∧ Hid (∀ i (hi : i < l.length), i < k → l[i].st ≠ x)) (fun i _ => l.length - (intOf i).toNat)
  case atStart => exact ⟨0, by omega, rfl, Below.refl _ _, fun i _ h => by omega⟩
  case round =>
    obtain ⟨k, hk, rfl, L, H⟩ := hrel
    by_cases hkn : k < l.length
    · obtain ⟨b, o, rfl, hlt, c0, c1, c2⟩ := (I.on L).at k hkn
      have hB1 : B < wr.heap.size := Nat.lt_of_lt_of_le hB L.size
      have hc1 : wr.cell? ⟨B, 0, none⟩ = some (.int .i64 x) := (L.cell (p := ⟨B, 0, none⟩) hB).trans hc
      go_wp2_with fail
      refine (pred_val l[k] x B _ hB1 hc1).mono ?_
      rintro e w1 ⟨rfl, L1⟩
      have L2 := join_below L L1
      by_cases e : l[k].st = x
      · have HE : Hid (idx l x 0 = k) := idx_at l x k H.out hkn e
        have e2 : (l[k].st == x) = true := beq_iff_eq.2 e
        clear e H
        go_wp2
        go_ret
        exact ⟨by rw [HE.out] <;> rfl, L2⟩
      · have HE : Hid (∀ i (hi : i < l.length), i < k + 1 → l[i].st ≠ x) := by
          intro i hi hik
          by_cases h : i = k
          · subst h; exact e
          · exact H.out i hi (by omega)
        have e2 : (l[k].st == x) = false := beq_eq_false_iff_ne.2 e
        clear e H
        go_wp2
        go_roundw
        case rel => exact ⟨k + 1, by omega, by go_num, L2, HE⟩
        case measure => simp [intOf]; omega
    · have HE : Hid (idx l x 0 = -1) := idx_none l x fun i hi => H.out i hi (by omega)
      clear H
      go_wp2
      go_ret
      exact ⟨by rw [HE.out] <;> rfl, L⟩

set_option maxHeartbeats 1000000 in
theorem stopAt_val (t : Hd) (x : Int) (a : Option Addr) (l : List St) (cap : Nat) (w : World) (hl : l.length ≤ maxLen) (I : Stops w a l) :
    Calls Try.prog 36 #[trV t a l.length cap, .int .i64 x] w fun e w' => e = .returned (.int .i64 (idx l x 0)) ∧ Below w.heap.size w w' := by
  have hmf : ∀ (fn : Fn) (first cap : Array Value) (w : World), (Instr.makeFunc fn first cap).run Try.prog w = .ok (.func fn first cap) w := fun _ _ _ _ => rfl
  have N1 := new_below w (trB t a l.length cap 33)
  have N := join_below N1 (new_below (w.alloc (trB t a l.length cap 33)) (.cells #[.int .i64 x] 3))
  have m0 := heap_new (w.alloc (trB t a l.length cap 33)) (.cells #[.int .i64 x] 3)
  have e1 : (w.alloc (trB t a l.length cap 33)).heap.size = w.heap.size + 1 := Array.size_push ..
  rw [e1] at m0
  have IN := I.on N
  have HC := indexFunc_val (w.heap.size + 1) x a l cap _ hl (lt_of m0) (cell_at m0 0) IN
  clear N1 e1 m0 IN
  go_enter Try.func36, Try.ntmps36
  go_wp2_with fail
  refine HC.mono ?_
  rintro e w1 ⟨rfl, L1⟩
  go_wp2
  go_ret
  exact ⟨rfl, join_below N L1⟩

set_option maxHeartbeats 1000000 in
theorem specAt_val (t : Hd) (x : Int) (a : Option Addr) (l : List St) (cap : Nat) (w : World) (hl : l.length ≤ maxLen) (I : Stops w a l) :
    Calls Try.prog 41 #[trV t a l.length cap, .int .i64 x] w fun e w' => e = .returned (.int .i64 (idx l x 0)) ∧ Below w.heap.size w w' := by
  unfold maxLen at hl
  have N := new_below w (trB t a l.length cap 33)
  have m0 := heap_new w (trB t a l.length cap 33)
  have IN := I.on N
  generalize hW : w.alloc (trB t a l.length cap 33) = W at *
  have HW : Hid (_) := hW
  have c4 : W.cell? ⟨w.heap.size, 4, none⟩ = some (.slice a l.length cap) := cell_at m0 4
  clear m0
  go_enter Try.func41, Try.ntmps41
  go_wp2
  go_loop [5] (fun i => ∃ k : Nat, k ≤ l.length ∧ i = .int .i64 k ∧ Hid (∀ i (hi : i < l.length), i < k → l[i].st ≠ x)) (fun i => l.length - (intOf i).toNat)
  case atStart => exact ⟨0, by omega, rfl, fun i _ h => by omega⟩
  case round =>
    obtain ⟨k, hk, rfl, H⟩ := hrel
    by_cases hkn : k < l.length
    · obtain ⟨b, o, rfl, hlt, c0, c1, c2⟩ := IN.at k hkn
      by_cases e : l[k].st = x
      · have HE : Hid (idx l x 0 = k) := idx_at l x k H.out hkn e
        have e2 : (l[k].st == x) = true := beq_iff_eq.2 e
        clear e H
        go_wp2
        go_ret
        exact ⟨by rw [HE.out] <;> rfl, N⟩
      · have HE : Hid (∀ i (hi : i < l.length), i < k + 1 → l[i].st ≠ x) := by
          intro i hi hik
          by_cases h : i = k
          · subst h; exact e
          · exact H.out i hi (by omega)
        have e2 : (l[k].st == x) = false := beq_eq_false_iff_ne.2 e
        clear e H
        go_wp2
        go_round
        case rel => exact ⟨k + 1, by omega, by go_num, HE⟩
        case measure => simp [intOf]; omega
    · have HE : Hid (idx l x 0 = -1) := idx_none l x fun i hi => H.out i hi (by omega)
      clear H
      go_wp2
      go_ret
      exact ⟨by rw [HE.out] <;> rfl, N⟩

theorem headOk_val (t : Hd) (a : Option Addr) (n cap : Nat) (w : World) :
    Calls Try.prog 59 #[trV t a n cap] w fun e w' => e = .returned (.bool (headB t)) ∧ Below w.heap.size w w' := by
  obtain ⟨id, dy, co, se⟩ := t
  unfold headB seatB
  dsimp only
  have H1 : Hid (∀ w, _) := fun w => between_val id 1 9999 w
  have H2 : Hid (∀ w, _) := fun w => between_val dy 1 127 w
  have H3 : Hid (∀ w, _) := fun w => between_val co 1 20 w
  have H4 : Hid (∀ w, _) := fun w => between_val se 1 90 w
  generalize inB id 1 9999 = b1 at *
  generalize inB dy 1 127 = b2 at *
  generalize inB co 1 20 = b3 at *
  generalize inB se 1 90 = b4 at *
  have N := new_below w (trB ⟨id, dy, co, se⟩ a n cap 33)
  go_enter Try.func59, Try.ntmps59
  go_wp2_with fail
  refine (H1.out _).mono ?_
  rintro e w1 ⟨rfl, rfl⟩
  cases b1
  · go_wp2
    go_ret
    exact ⟨rfl, N⟩
  go_wp2_with fail
  refine (H2.out _).mono ?_
  rintro e w1 ⟨rfl, rfl⟩
  cases b2
  · go_wp2
    go_ret
    exact ⟨rfl, N⟩
  by_cases hc : co = 0
  · by_cases hs : se = 0
    · subst hc hs
      go_wp2
      go_ret
      exact ⟨rfl, N⟩
    · subst hc
      have e2 : (se == 0) = false := beq_eq_false_iff_ne.2 hs
      go_wp2_with fail
      refine (H3.out _).mono ?_
      rintro e w1 ⟨rfl, rfl⟩
      cases b3
      · go_wp2
        go_ret
        exact ⟨by simp [hs], N⟩
      · go_wp2_with fail
        refine (H4.out _).mono ?_
        rintro e w1 ⟨rfl, rfl⟩
        go_wp2
        go_ret
        exact ⟨by simp [hs], N⟩
  · have e2 : (co == 0) = false := beq_eq_false_iff_ne.2 hc
    go_wp2_with fail
    refine (H3.out _).mono ?_
    rintro e w1 ⟨rfl, rfl⟩
    cases b3
    · go_wp2
      go_ret
      exact ⟨by simp [hc], N⟩
    · go_wp2_with fail
      refine (H4.out _).mono ?_
      rintro e w1 ⟨rfl, rfl⟩
      go_wp2
      go_ret
      exact ⟨by simp [hc], N⟩

end Tn
end Go.Proofs.Ytfoccmhmgdengaa

/- Whether two holds meet, of the model. -/
import Derived.Test.YtmoinacceildcaaGreatDoorSeMeet
namespace Go.Proofs.YtmoinacceildcaaGreatDoor
namespace Se
open Go.ChangeShapes Go.WideShapes Go.ChangeAt Go.RowKit
open Pk (new_below join_below cell_at heap_new frozen_at lt_of kept heap_old Drawn info_of own_form own_below Room)
set_option linter.unusedSimpArgs false
set_option linter.unusedVariables false

set_option maxRecDepth 100000 in
set_option maxHeartbeats 4000000 in
theorem specMeet_val (p q : Hl) (w : World) :
    Calls Tryz.prog 105 #[lgV p, lgV q] w fun e w' => e = .returned (.bool (meetB p q)) ∧ Below w.heap.size w w' := by
  have HN : Hid (Below w.heap.size w ((w.alloc (.cells #[.int .i64 p.tr, .int .i64 p.dy, .int .i64 p.co, .int .i64 p.se, .int .i64 p.ba, .int .i64 p.be, .int .i64 p.od] 98)).alloc (.cells #[.int .i64 q.tr, .int .i64 q.dy, .int .i64 q.co, .int .i64 q.se, .int .i64 q.ba, .int .i64 q.be, .int .i64 q.od] 98))) := join_below (new_below _ _) (new_below _ _)
  by_cases h0 : p.tr = q.tr
  · have d0 : (p.tr == q.tr) = true := by simp [h0]
    by_cases h1 : p.dy = q.dy
    · have d1 : (p.dy == q.dy) = true := by simp [h1]
      by_cases h2 : p.co = q.co
      · have d2 : (p.co == q.co) = true := by simp [h2]
        by_cases h3 : p.se = q.se
        · have d3 : (p.se == q.se) = true := by simp [h3]
          by_cases h4 : p.ba < q.be
          · have d4 : decide (p.ba < q.be) = true := decide_eq_true h4
            by_cases h5 : q.ba < p.be
            · have d5 : decide (q.ba < p.be) = true := decide_eq_true h5
              have HV : Hid (meetB p q = true) := by
                show meetB p q = true
                unfold meetB
                simp [key_eq, h0, h1, h2, h3, h4, h5]
              clear h0 h1 h2 h3 h4 h5
              go_enter Tryz.func105, Tryz.ntmps105
              go_wp2
              go_ret
              exact ⟨by rw [HV.out] <;> rfl, HN.out⟩
            · have d5 : decide (q.ba < p.be) = false := decide_eq_false h5
              have HV : Hid (meetB p q = false) := by
                show meetB p q = false
                unfold meetB
                simp [key_eq, h0, h1, h2, h3, h4, h5]
              clear h0 h1 h2 h3 h4 h5
              go_enter Tryz.func105, Tryz.ntmps105
              go_wp2
              go_ret
              exact ⟨by rw [HV.out] <;> rfl, HN.out⟩
          · have d4 : decide (p.ba < q.be) = false := decide_eq_false h4
            have HV : Hid (meetB p q = false) := by
              show meetB p q = false
              unfold meetB
              simp [key_eq, h0, h1, h2, h3, h4]
            clear h0 h1 h2 h3 h4
            go_enter Tryz.func105, Tryz.ntmps105
            go_wp2
            go_ret
            exact ⟨by rw [HV.out] <;> rfl, HN.out⟩
        · have d3 : (p.se == q.se) = false := by simp [h3]
          have HV : Hid (meetB p q = false) := by
            show meetB p q = false
            unfold meetB
            simp [key_eq, h0, h1, h2, h3]
          clear h0 h1 h2 h3
          go_enter Tryz.func105, Tryz.ntmps105
          go_wp2
          go_ret
          exact ⟨by rw [HV.out] <;> rfl, HN.out⟩
      · have d2 : (p.co == q.co) = false := by simp [h2]
        have HV : Hid (meetB p q = false) := by
          show meetB p q = false
          unfold meetB
          simp [key_eq, h0, h1, h2]
        clear h0 h1 h2
        go_enter Tryz.func105, Tryz.ntmps105
        go_wp2
        go_ret
        exact ⟨by rw [HV.out] <;> rfl, HN.out⟩
    · have d1 : (p.dy == q.dy) = false := by simp [h1]
      have HV : Hid (meetB p q = false) := by
        show meetB p q = false
        unfold meetB
        simp [key_eq, h0, h1]
      clear h0 h1
      go_enter Tryz.func105, Tryz.ntmps105
      go_wp2
      go_ret
      exact ⟨by rw [HV.out] <;> rfl, HN.out⟩
  · have d0 : (p.tr == q.tr) = false := by simp [h0]
    have HV : Hid (meetB p q = false) := by
      show meetB p q = false
      unfold meetB
      simp [key_eq, h0]
    clear h0
    go_enter Tryz.func105, Tryz.ntmps105
    go_wp2
    go_ret
    exact ⟨by rw [HV.out] <;> rfl, HN.out⟩

end Se
end Go.Proofs.YtmoinacceildcaaGreatDoor

/- Whether one hold is right, of the program and of the model. -/
import Derived.Test.YtehmlnojjfeheaaGreatSeMeet
namespace Go.Proofs.YtehmlnojjfeheaaGreat
namespace Se
open Go.ChangeShapes Go.WideShapes Go.ChangeAt Go.RowKit
open Pk (new_below join_below cell_at heap_new frozen_at lt_of kept heap_old Drawn info_of own_form own_below Room)
set_option linter.unusedSimpArgs false
set_option linter.unusedVariables false

def inB (x lo hi : Int) : Bool := decide (lo ≤ x) && decide (x ≤ hi)
def stB (a b n : Int) : Bool := decide (0 ≤ a) && (decide (a < b) && decide (b < n))
def kyB (k : Ky) : Bool := inB k.tr 1 9999 && (inB k.dy 0 99999 && (inB k.co 1 99 && inB k.se 1 99))
/-- Whether a hold is right. -/
def holdB (p : Hl) : Bool := kyB (key p) && (stB p.ba p.be 20 && decide (1 ≤ p.od))

theorem in_is {x lo hi : Int} : inB x lo hi = true ↔ lo ≤ x ∧ x ≤ hi := by simp [inB]
theorem in_not {x lo hi : Int} : inB x lo hi = false ↔ ¬ (lo ≤ x ∧ x ≤ hi) := by
  rw [← in_is]
  simp
theorem st_is {a b n : Int} : stB a b n = true ↔ 0 ≤ a ∧ a < b ∧ b < n := by simp [stB]

theorem btw_yes (x lo hi : Int) (w : World) (h : inB x lo hi = true) :
    Calls Tryz.prog 85 #[.int .i64 x, .int .i64 lo, .int .i64 hi] w fun e w' => e = .returned (.bool true) ∧ w' = w := by
  obtain ⟨h1, h2⟩ := in_is.1 h
  have d1 : decide (lo ≤ x) = true := decide_eq_true h1
  have d2 : decide (x ≤ hi) = true := decide_eq_true h2
  clear h h1 h2
  go_enter Tryz.func85, Tryz.ntmps85
  go_wp2
  go_ret
  exact ⟨rfl, rfl⟩

theorem btw_no (x lo hi : Int) (w : World) (h : inB x lo hi = false) :
    Calls Tryz.prog 85 #[.int .i64 x, .int .i64 lo, .int .i64 hi] w fun e w' => e = .returned (.bool false) ∧ w' = w := by
  by_cases h1 : lo ≤ x
  · have h2 : ¬ x ≤ hi := fun h2 => in_not.1 h ⟨h1, h2⟩
    have d1 : decide (lo ≤ x) = true := decide_eq_true h1
    have d2 : decide (x ≤ hi) = false := decide_eq_false h2
    clear h h1 h2
    go_enter Tryz.func85, Tryz.ntmps85
    go_wp2
    go_ret
    exact ⟨rfl, rfl⟩
  · have d1 : decide (lo ≤ x) = false := decide_eq_false h1
    clear h h1
    go_enter Tryz.func85, Tryz.ntmps85
    go_wp2
    go_ret
    exact ⟨rfl, rfl⟩

theorem btw_val (x lo hi : Int) (w : World) : Calls Tryz.prog 85 #[.int .i64 x, .int .i64 lo, .int .i64 hi] w fun e w' => e = .returned (.bool (inB x lo hi)) ∧ w' = w := by
  cases h : inB x lo hi
  · exact btw_no x lo hi w h
  · exact btw_yes x lo hi w h

theorem ins_yes (x lo hi : Int) (w : World) (h : inB x lo hi = true) :
    Calls Tryz.prog 43 #[.int .i64 x, .int .i64 lo, .int .i64 hi] w fun e w' => e = .returned (.bool true) ∧ w' = w := by
  obtain ⟨h1, h2⟩ := in_is.1 h
  have d1 : decide (lo ≤ x) = true := decide_eq_true h1
  have d2 : decide (x ≤ hi) = true := decide_eq_true h2
  clear h h1 h2
  go_enter Tryz.func43, Tryz.ntmps43
  go_wp2
  go_ret
  exact ⟨rfl, rfl⟩

theorem ins_no (x lo hi : Int) (w : World) (h : inB x lo hi = false) :
    Calls Tryz.prog 43 #[.int .i64 x, .int .i64 lo, .int .i64 hi] w fun e w' => e = .returned (.bool false) ∧ w' = w := by
  by_cases h1 : lo ≤ x
  · have h2 : ¬ x ≤ hi := fun h2 => in_not.1 h ⟨h1, h2⟩
    have d1 : decide (lo ≤ x) = true := decide_eq_true h1
    have d2 : decide (x ≤ hi) = false := decide_eq_false h2
    clear h h1 h2
    go_enter Tryz.func43, Tryz.ntmps43
    go_wp2
    go_ret
    exact ⟨rfl, rfl⟩
  · have d1 : decide (lo ≤ x) = false := decide_eq_false h1
    clear h h1
    go_enter Tryz.func43, Tryz.ntmps43
    go_wp2
    go_ret
    exact ⟨rfl, rfl⟩

theorem ins_val (x lo hi : Int) (w : World) : Calls Tryz.prog 43 #[.int .i64 x, .int .i64 lo, .int .i64 hi] w fun e w' => e = .returned (.bool (inB x lo hi)) ∧ w' = w := by
  cases h : inB x lo hi
  · exact ins_no x lo hi w h
  · exact ins_yes x lo hi w h

theorem stretch_val (a b n : Int) (w : World) : Calls Tryz.prog 102 #[.int .i64 a, .int .i64 b, .int .i64 n] w fun e w' => e = .returned (.bool (stB a b n)) ∧ w' = w := by
  by_cases h1 : 0 ≤ a
  · have d1 : decide (0 ≤ a) = true := decide_eq_true h1
    by_cases h2 : a < b
    · have d2 : decide (a < b) = true := decide_eq_true h2
      by_cases h3 : b < n
      · have d3 : decide (b < n) = true := decide_eq_true h3
        have HV : Hid (stB a b n = true) := by simp [stB, h1, h2, h3, Hid]
        clear h1 h2 h3
        go_enter Tryz.func102, Tryz.ntmps102
        go_wp2
        go_ret
        exact ⟨by rw [HV.out] <;> rfl, rfl⟩
      · have d3 : decide (b < n) = false := decide_eq_false h3
        have HV : Hid (stB a b n = false) := by simp [stB, h1, h2, h3, Hid]
        clear h1 h2 h3
        go_enter Tryz.func102, Tryz.ntmps102
        go_wp2
        go_ret
        exact ⟨by rw [HV.out] <;> rfl, rfl⟩
    · have d2 : decide (a < b) = false := decide_eq_false h2
      have HV : Hid (stB a b n = false) := by simp [stB, h1, h2, Hid]
      clear h1 h2
      go_enter Tryz.func102, Tryz.ntmps102
      go_wp2
      go_ret
      exact ⟨by rw [HV.out] <;> rfl, rfl⟩
  · have d1 : decide (0 ≤ a) = false := decide_eq_false h1
    have HV : Hid (stB a b n = false) := by simp [stB, h1, Hid]
    clear h1
    go_enter Tryz.func102, Tryz.ntmps102
    go_wp2
    go_ret
    exact ⟨by rw [HV.out] <;> rfl, rfl⟩

set_option maxRecDepth 100000 in
set_option maxHeartbeats 2000000 in
theorem keyOk_val (k : Ky) (w : World) :
    Calls Tryz.prog 101 #[kyV k] w fun e w' => e = .returned (.bool (kyB k)) ∧ Below w.heap.size w w' := by
  have HN := new_below w (.cells #[.int .i64 k.tr, .int .i64 k.dy, .int .i64 k.co, .int .i64 k.se] 148)
  by_cases d0 : inB k.tr 1 9999 = true
  · by_cases d1 : inB k.dy 0 99999 = true
    · by_cases d2 : inB k.co 1 99 = true
      · by_cases d3 : inB k.se 1 99 = true
        · have HV : Hid (kyB k = true) := by
            show kyB k = true
            simp [kyB, d0, d1, d2, d3]
          go_enter Tryz.func101, Tryz.ntmps101
          go_wp2_with fail
          refine (btw_yes k.tr 1 9999 _ d0).mono ?_
          rintro e w1 ⟨rfl, rfl⟩
          go_wp2_with fail
          refine (btw_yes k.dy 0 99999 _ d1).mono ?_
          rintro e w2 ⟨rfl, rfl⟩
          go_wp2_with fail
          refine (btw_yes k.co 1 99 _ d2).mono ?_
          rintro e w3 ⟨rfl, rfl⟩
          go_wp2_with fail
          refine (btw_yes k.se 1 99 _ d3).mono ?_
          rintro e w4 ⟨rfl, rfl⟩
          go_wp2
          go_ret
          exact ⟨by rw [HV.out] <;> rfl, HN⟩
        · have d3 : inB k.se 1 99 = false := Bool.eq_false_iff.2 d3
          have HV : Hid (kyB k = false) := by
            show kyB k = false
            simp [kyB, d0, d1, d2, d3]
          go_enter Tryz.func101, Tryz.ntmps101
          go_wp2_with fail
          refine (btw_yes k.tr 1 9999 _ d0).mono ?_
          rintro e w1 ⟨rfl, rfl⟩
          go_wp2_with fail
          refine (btw_yes k.dy 0 99999 _ d1).mono ?_
          rintro e w2 ⟨rfl, rfl⟩
          go_wp2_with fail
          refine (btw_yes k.co 1 99 _ d2).mono ?_
          rintro e w3 ⟨rfl, rfl⟩
          go_wp2_with fail
          refine (btw_no k.se 1 99 _ d3).mono ?_
          rintro e w4 ⟨rfl, rfl⟩
          go_wp2
          go_ret
          exact ⟨by rw [HV.out] <;> rfl, HN⟩
      · have d2 : inB k.co 1 99 = false := Bool.eq_false_iff.2 d2
        have HV : Hid (kyB k = false) := by
          show kyB k = false
          simp [kyB, d0, d1, d2]
        go_enter Tryz.func101, Tryz.ntmps101
        go_wp2_with fail
        refine (btw_yes k.tr 1 9999 _ d0).mono ?_
        rintro e w1 ⟨rfl, rfl⟩
        go_wp2_with fail
        refine (btw_yes k.dy 0 99999 _ d1).mono ?_
        rintro e w2 ⟨rfl, rfl⟩
        go_wp2_with fail
        refine (btw_no k.co 1 99 _ d2).mono ?_
        rintro e w3 ⟨rfl, rfl⟩
        go_wp2
        go_ret
        exact ⟨by rw [HV.out] <;> rfl, HN⟩
    · have d1 : inB k.dy 0 99999 = false := Bool.eq_false_iff.2 d1
      have HV : Hid (kyB k = false) := by
        show kyB k = false
        simp [kyB, d0, d1]
      go_enter Tryz.func101, Tryz.ntmps101
      go_wp2_with fail
      refine (btw_yes k.tr 1 9999 _ d0).mono ?_
      rintro e w1 ⟨rfl, rfl⟩
      go_wp2_with fail
      refine (btw_no k.dy 0 99999 _ d1).mono ?_
      rintro e w2 ⟨rfl, rfl⟩
      go_wp2
      go_ret
      exact ⟨by rw [HV.out] <;> rfl, HN⟩
  · have d0 : inB k.tr 1 9999 = false := Bool.eq_false_iff.2 d0
    have HV : Hid (kyB k = false) := by
      show kyB k = false
      simp [kyB, d0]
    go_enter Tryz.func101, Tryz.ntmps101
    go_wp2_with fail
    refine (btw_no k.tr 1 9999 _ d0).mono ?_
    rintro e w1 ⟨rfl, rfl⟩
    go_wp2
    go_ret
    exact ⟨by rw [HV.out] <;> rfl, HN⟩

set_option maxRecDepth 100000 in
set_option maxHeartbeats 2000000 in
theorem holdOk_val (p : Hl) (w : World) :
    Calls Tryz.prog 82 #[lgV p] w fun e w' => e = .returned (.bool (holdB p)) ∧ Below w.heap.size w w' := by
  have N := new_below w (.cells #[.int .i64 p.tr, .int .i64 p.dy, .int .i64 p.co, .int .i64 p.se, .int .i64 p.ba, .int .i64 p.be, .int .i64 p.od] 81)
  have B1 : Bx (w.alloc (.cells #[.int .i64 p.tr, .int .i64 p.dy, .int .i64 p.co, .int .i64 p.se, .int .i64 p.ba, .int .i64 p.be, .int .i64 p.od] 81)) w.heap.size p := Bx.of (heap_new _ _)
  have hb : w.heap.size < (w.alloc (.cells #[.int .i64 p.tr, .int .i64 p.dy, .int .i64 p.co, .int .i64 p.se, .int .i64 p.ba, .int .i64 p.be, .int .i64 p.od] 81)).heap.size := by simp
  generalize hW : w.alloc (.cells #[.int .i64 p.tr, .int .i64 p.dy, .int .i64 p.co, .int .i64 p.se, .int .i64 p.ba, .int .i64 p.be, .int .i64 p.od] 81) = W at *
  have HW : Hid (_) := hW
  clear hW
  have HY : Hid (∀ wx, Below W.heap.size W wx → Below w.heap.size w wx) := fun wx L => join_below N L
  have HK : Hid (∀ w, _) := fun w => key_val p w
  have HO : Hid (∀ w, _) := fun w => keyOk_val (key p) w
  have HS : Hid (∀ w, _) := fun w => stretch_val p.ba p.be 20 w
  have HB : Hid (Bx W w.heap.size p) := B1
  clear N B1
  by_cases d0 : kyB (key p) = true
  · rw [d0] at HO
    by_cases d1 : stB p.ba p.be 20 = true
    · rw [d1] at HS
      have HV : Hid (holdB p = decide (1 ≤ p.od)) := by simp [holdB, d0, d1, Hid]
      clear d0 d1
      go_enter Tryz.func82, Tryz.ntmps82
      go_wp2_with fail
      rw [HW.out]
      obtain ⟨c0, c1, c2, c3, c4, c5, c6⟩ := HB.out
      go_wp2_with fail
      refine (HK.out _).mono ?_
      rintro e w1 ⟨rfl, L1⟩
      go_wp2_with fail
      refine (HO.out _).mono ?_
      rintro e w2 ⟨rfl, L2⟩
      have K2 := join_below L1 L2
      clear c0 c1 c2 c3 c4 c5 c6
      obtain ⟨c0, c1, c2, c3, c4, c5, c6⟩ := HB.out.on K2 hb
      go_wp2_with fail
      refine (HS.out _).mono ?_
      rintro e w3 ⟨rfl, rfl⟩
      go_wp2
      go_ret
      exact ⟨by rw [HV.out] <;> rfl, HY.out _ K2⟩
    · have d1 : stB p.ba p.be 20 = false := Bool.eq_false_iff.2 d1
      rw [d1] at HS
      have HV : Hid (holdB p = false) := by simp [holdB, d0, d1, Hid]
      clear d0
      go_enter Tryz.func82, Tryz.ntmps82
      go_wp2_with fail
      rw [HW.out]
      obtain ⟨c0, c1, c2, c3, c4, c5, c6⟩ := HB.out
      go_wp2_with fail
      refine (HK.out _).mono ?_
      rintro e w1 ⟨rfl, L1⟩
      go_wp2_with fail
      refine (HO.out _).mono ?_
      rintro e w2 ⟨rfl, L2⟩
      have K2 := join_below L1 L2
      clear c0 c1 c2 c3 c4 c5 c6
      obtain ⟨c0, c1, c2, c3, c4, c5, c6⟩ := HB.out.on K2 hb
      go_wp2_with fail
      refine (HS.out _).mono ?_
      rintro e w3 ⟨rfl, rfl⟩
      go_wp2
      go_ret
      exact ⟨by rw [HV.out] <;> rfl, HY.out _ K2⟩
  · have d0 : kyB (key p) = false := Bool.eq_false_iff.2 d0
    rw [d0] at HO
    have HV : Hid (holdB p = false) := by simp [holdB, d0, Hid]
    go_enter Tryz.func82, Tryz.ntmps82
    go_wp2_with fail
    rw [HW.out]
    obtain ⟨c0, c1, c2, c3, c4, c5, c6⟩ := HB.out
    go_wp2_with fail
    refine (HK.out _).mono ?_
    rintro e w1 ⟨rfl, L1⟩
    go_wp2_with fail
    refine (HO.out _).mono ?_
    rintro e w2 ⟨rfl, L2⟩
    have K2 := join_below L1 L2
    go_wp2
    go_ret
    exact ⟨by rw [HV.out] <;> rfl, HY.out _ K2⟩

/-- As the model says it. -/
def holdT (p : Hl) : Bool := inB p.tr 1 9999 && (inB p.dy 0 99999 && (inB p.co 1 99 && (inB p.se 1 99 && (inB p.ba 0 19 && (inB p.be (p.ba + 1) 19 && decide (1 ≤ p.od))))))

theorem holdT_is (p : Hl) : holdT p = holdB p := by
  rw [Bool.eq_iff_iff]
  simp only [holdT, holdB, kyB, key, Bool.and_eq_true, in_is, st_is, decide_eq_true_eq]
  omega

set_option maxRecDepth 100000 in
set_option maxHeartbeats 2000000 in
theorem specHoldT_val (p : Hl) (w : World) :
    Calls Tryz.prog 75 #[lgV p] w fun e w' => e = .returned (.bool (holdT p)) ∧ Below w.heap.size w w' := by
  have HN := new_below w (.cells #[.int .i64 p.tr, .int .i64 p.dy, .int .i64 p.co, .int .i64 p.se, .int .i64 p.ba, .int .i64 p.be, .int .i64 p.od] 81)
  by_cases d0 : inB p.tr 1 9999 = true
  · by_cases d1 : inB p.dy 0 99999 = true
    · by_cases d2 : inB p.co 1 99 = true
      · by_cases d3 : inB p.se 1 99 = true
        · by_cases d4 : inB p.ba 0 19 = true
          · obtain ⟨l4, u4⟩ := in_is.1 d4
            by_cases d5 : inB p.be (p.ba + 1) 19 = true
            · by_cases d6 : decide (1 ≤ p.od) = true
              · have HV : Hid (holdT p = true) := by
                  show holdT p = true
                  simp [holdT, d0, d1, d2, d3, d4, d5, d6]
                go_enter Tryz.func75, Tryz.ntmps75
                go_wp2_with fail
                refine (ins_yes p.tr 1 9999 _ d0).mono ?_
                rintro e w1 ⟨rfl, rfl⟩
                go_wp2_with fail
                refine (ins_yes p.dy 0 99999 _ d1).mono ?_
                rintro e w2 ⟨rfl, rfl⟩
                go_wp2_with fail
                refine (ins_yes p.co 1 99 _ d2).mono ?_
                rintro e w3 ⟨rfl, rfl⟩
                go_wp2_with fail
                refine (ins_yes p.se 1 99 _ d3).mono ?_
                rintro e w4 ⟨rfl, rfl⟩
                go_wp2_with fail
                refine (ins_yes p.ba 0 19 _ d4).mono ?_
                rintro e w5 ⟨rfl, rfl⟩
                go_wp2_with fail
                refine (ins_yes p.be (p.ba + 1) 19 _ d5).mono ?_
                rintro e w6 ⟨rfl, rfl⟩
                go_wp2
                go_ret
                exact ⟨by rw [HV.out] <;> rfl, HN⟩
              · have d6 : decide (1 ≤ p.od) = false := Bool.eq_false_iff.2 d6
                have HV : Hid (holdT p = false) := by
                  show holdT p = false
                  simp [holdT, d0, d1, d2, d3, d4, d5, d6]
                go_enter Tryz.func75, Tryz.ntmps75
                go_wp2_with fail
                refine (ins_yes p.tr 1 9999 _ d0).mono ?_
                rintro e w1 ⟨rfl, rfl⟩
                go_wp2_with fail
                refine (ins_yes p.dy 0 99999 _ d1).mono ?_
                rintro e w2 ⟨rfl, rfl⟩
                go_wp2_with fail
                refine (ins_yes p.co 1 99 _ d2).mono ?_
                rintro e w3 ⟨rfl, rfl⟩
                go_wp2_with fail
                refine (ins_yes p.se 1 99 _ d3).mono ?_
                rintro e w4 ⟨rfl, rfl⟩
                go_wp2_with fail
                refine (ins_yes p.ba 0 19 _ d4).mono ?_
                rintro e w5 ⟨rfl, rfl⟩
                go_wp2_with fail
                refine (ins_yes p.be (p.ba + 1) 19 _ d5).mono ?_
                rintro e w6 ⟨rfl, rfl⟩
                go_wp2
                go_ret
                exact ⟨by rw [HV.out] <;> rfl, HN⟩
            · have d5 : inB p.be (p.ba + 1) 19 = false := Bool.eq_false_iff.2 d5
              have HV : Hid (holdT p = false) := by
                show holdT p = false
                simp [holdT, d0, d1, d2, d3, d4, d5]
              go_enter Tryz.func75, Tryz.ntmps75
              go_wp2_with fail
              refine (ins_yes p.tr 1 9999 _ d0).mono ?_
              rintro e w1 ⟨rfl, rfl⟩
              go_wp2_with fail
              refine (ins_yes p.dy 0 99999 _ d1).mono ?_
              rintro e w2 ⟨rfl, rfl⟩
              go_wp2_with fail
              refine (ins_yes p.co 1 99 _ d2).mono ?_
              rintro e w3 ⟨rfl, rfl⟩
              go_wp2_with fail
              refine (ins_yes p.se 1 99 _ d3).mono ?_
              rintro e w4 ⟨rfl, rfl⟩
              go_wp2_with fail
              refine (ins_yes p.ba 0 19 _ d4).mono ?_
              rintro e w5 ⟨rfl, rfl⟩
              go_wp2_with fail
              refine (ins_no p.be (p.ba + 1) 19 _ d5).mono ?_
              rintro e w6 ⟨rfl, rfl⟩
              go_wp2
              go_ret
              exact ⟨by rw [HV.out] <;> rfl, HN⟩
          · have d4 : inB p.ba 0 19 = false := Bool.eq_false_iff.2 d4
            have HV : Hid (holdT p = false) := by
              show holdT p = false
              simp [holdT, d0, d1, d2, d3, d4]
            go_enter Tryz.func75, Tryz.ntmps75
            go_wp2_with fail
            refine (ins_yes p.tr 1 9999 _ d0).mono ?_
            rintro e w1 ⟨rfl, rfl⟩
            go_wp2_with fail
            refine (ins_yes p.dy 0 99999 _ d1).mono ?_
            rintro e w2 ⟨rfl, rfl⟩
            go_wp2_with fail
            refine (ins_yes p.co 1 99 _ d2).mono ?_
            rintro e w3 ⟨rfl, rfl⟩
            go_wp2_with fail
            refine (ins_yes p.se 1 99 _ d3).mono ?_
            rintro e w4 ⟨rfl, rfl⟩
            go_wp2_with fail
            refine (ins_no p.ba 0 19 _ d4).mono ?_
            rintro e w5 ⟨rfl, rfl⟩
            go_wp2
            go_ret
            exact ⟨by rw [HV.out] <;> rfl, HN⟩
        · have d3 : inB p.se 1 99 = false := Bool.eq_false_iff.2 d3
          have HV : Hid (holdT p = false) := by
            show holdT p = false
            simp [holdT, d0, d1, d2, d3]
          go_enter Tryz.func75, Tryz.ntmps75
          go_wp2_with fail
          refine (ins_yes p.tr 1 9999 _ d0).mono ?_
          rintro e w1 ⟨rfl, rfl⟩
          go_wp2_with fail
          refine (ins_yes p.dy 0 99999 _ d1).mono ?_
          rintro e w2 ⟨rfl, rfl⟩
          go_wp2_with fail
          refine (ins_yes p.co 1 99 _ d2).mono ?_
          rintro e w3 ⟨rfl, rfl⟩
          go_wp2_with fail
          refine (ins_no p.se 1 99 _ d3).mono ?_
          rintro e w4 ⟨rfl, rfl⟩
          go_wp2
          go_ret
          exact ⟨by rw [HV.out] <;> rfl, HN⟩
      · have d2 : inB p.co 1 99 = false := Bool.eq_false_iff.2 d2
        have HV : Hid (holdT p = false) := by
          show holdT p = false
          simp [holdT, d0, d1, d2]
        go_enter Tryz.func75, Tryz.ntmps75
        go_wp2_with fail
        refine (ins_yes p.tr 1 9999 _ d0).mono ?_
        rintro e w1 ⟨rfl, rfl⟩
        go_wp2_with fail
        refine (ins_yes p.dy 0 99999 _ d1).mono ?_
        rintro e w2 ⟨rfl, rfl⟩
        go_wp2_with fail
        refine (ins_no p.co 1 99 _ d2).mono ?_
        rintro e w3 ⟨rfl, rfl⟩
        go_wp2
        go_ret
        exact ⟨by rw [HV.out] <;> rfl, HN⟩
    · have d1 : inB p.dy 0 99999 = false := Bool.eq_false_iff.2 d1
      have HV : Hid (holdT p = false) := by
        show holdT p = false
        simp [holdT, d0, d1]
      go_enter Tryz.func75, Tryz.ntmps75
      go_wp2_with fail
      refine (ins_yes p.tr 1 9999 _ d0).mono ?_
      rintro e w1 ⟨rfl, rfl⟩
      go_wp2_with fail
      refine (ins_no p.dy 0 99999 _ d1).mono ?_
      rintro e w2 ⟨rfl, rfl⟩
      go_wp2
      go_ret
      exact ⟨by rw [HV.out] <;> rfl, HN⟩
  · have d0 : inB p.tr 1 9999 = false := Bool.eq_false_iff.2 d0
    have HV : Hid (holdT p = false) := by
      show holdT p = false
      simp [holdT, d0]
    go_enter Tryz.func75, Tryz.ntmps75
    go_wp2_with fail
    refine (ins_no p.tr 1 9999 _ d0).mono ?_
    rintro e w1 ⟨rfl, rfl⟩
    go_wp2
    go_ret
    exact ⟨by rw [HV.out] <;> rfl, HN⟩

theorem specHold_val (p : Hl) (w : World) :
    Calls Tryz.prog 75 #[lgV p] w fun e w' => e = .returned (.bool (holdB p)) ∧ Below w.heap.size w w' := by
  rw [← holdT_is]
  exact specHoldT_val p w

end Se
end Go.Proofs.YtehmlnojjfeheaaGreat

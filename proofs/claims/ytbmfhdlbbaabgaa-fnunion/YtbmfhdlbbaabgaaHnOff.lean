/- Lists of numbers that are off: OffOk of program and model. -/
import Derived.Test.YtbmfhdlbbaabgaaHnInts
namespace Go.Proofs.Ytbmfhdlbbaabgaa
namespace Hn
open Go.ChangeShapes Go.WideShapes Go.ChangeAt Go.RowKit
open Pk (new_below join_below cell_at heap_new frozen_at lt_of kept heap_old Drawn info_of Room)
set_option linter.unusedSimpArgs false
set_option linter.unusedVariables false

def inB (x lo hi : Int) : Bool := decide (lo ≤ x) && decide (x ≤ hi)

theorem in_is {x lo hi : Int} : inB x lo hi = true ↔ lo ≤ x ∧ x ≤ hi := by simp [inB]
theorem in_not {x lo hi : Int} : inB x lo hi = false ↔ ¬ (lo ≤ x ∧ x ≤ hi) := by
  rw [← in_is]
  simp

theorem btw_yes (x lo hi : Int) (w : World) (h : inB x lo hi = true) :
    Calls Try.prog 33 #[.int .i64 x, .int .i64 lo, .int .i64 hi] w fun e w' => e = .returned (.bool true) ∧ w' = w := by
  obtain ⟨h1, h2⟩ := in_is.1 h
  have d1 : decide (lo ≤ x) = true := decide_eq_true h1
  have d2 : decide (x ≤ hi) = true := decide_eq_true h2
  clear h h1 h2
  go_enter Try.func33, Try.ntmps33
  go_wp2
  go_ret
  exact ⟨rfl, rfl⟩

theorem btw_no (x lo hi : Int) (w : World) (h : inB x lo hi = false) :
    Calls Try.prog 33 #[.int .i64 x, .int .i64 lo, .int .i64 hi] w fun e w' => e = .returned (.bool false) ∧ w' = w := by
  by_cases h1 : lo ≤ x
  · have h2 : ¬ x ≤ hi := fun h2 => in_not.1 h ⟨h1, h2⟩
    have d1 : decide (lo ≤ x) = true := decide_eq_true h1
    have d2 : decide (x ≤ hi) = false := decide_eq_false h2
    clear h h1 h2
    go_enter Try.func33, Try.ntmps33
    go_wp2
    go_ret
    exact ⟨rfl, rfl⟩
  · have d1 : decide (lo ≤ x) = false := decide_eq_false h1
    clear h h1
    go_enter Try.func33, Try.ntmps33
    go_wp2
    go_ret
    exact ⟨rfl, rfl⟩

theorem btw_val (x lo hi : Int) (w : World) : Calls Try.prog 33 #[.int .i64 x, .int .i64 lo, .int .i64 hi] w fun e w' => e = .returned (.bool (inB x lo hi)) ∧ w' = w := by
  cases h : inB x lo hi
  · exact btw_no x lo hi w h
  · exact btw_yes x lo hi w h

theorem ins_yes (x lo hi : Int) (w : World) (h : inB x lo hi = true) :
    Calls Try.prog 34 #[.int .i64 x, .int .i64 lo, .int .i64 hi] w fun e w' => e = .returned (.bool true) ∧ w' = w := by
  obtain ⟨h1, h2⟩ := in_is.1 h
  have d1 : decide (lo ≤ x) = true := decide_eq_true h1
  have d2 : decide (x ≤ hi) = true := decide_eq_true h2
  clear h h1 h2
  go_enter Try.func34, Try.ntmps34
  go_wp2
  go_ret
  exact ⟨rfl, rfl⟩

theorem ins_no (x lo hi : Int) (w : World) (h : inB x lo hi = false) :
    Calls Try.prog 34 #[.int .i64 x, .int .i64 lo, .int .i64 hi] w fun e w' => e = .returned (.bool false) ∧ w' = w := by
  by_cases h1 : lo ≤ x
  · have h2 : ¬ x ≤ hi := fun h2 => in_not.1 h ⟨h1, h2⟩
    have d1 : decide (lo ≤ x) = true := decide_eq_true h1
    have d2 : decide (x ≤ hi) = false := decide_eq_false h2
    clear h h1 h2
    go_enter Try.func34, Try.ntmps34
    go_wp2
    go_ret
    exact ⟨rfl, rfl⟩
  · have d1 : decide (lo ≤ x) = false := decide_eq_false h1
    clear h h1
    go_enter Try.func34, Try.ntmps34
    go_wp2
    go_ret
    exact ⟨rfl, rfl⟩

theorem ins_val (x lo hi : Int) (w : World) : Calls Try.prog 34 #[.int .i64 x, .int .i64 lo, .int .i64 hi] w fun e w' => e = .returned (.bool (inB x lo hi)) ∧ w' = w := by
  cases h : inB x lo hi
  · exact ins_no x lo hi w h
  · exact ins_yes x lo hi w h

/-- Numbers that ascend from above p on, none above the greatest. -/
def offG (p : Int) : List Int → Bool
  | [] => true
  | x :: t => decide (p < x) && (decide (x ≤ 999999999) && offG x t)

/-- Whether a list of numbers is right. -/
def offB (l : List Int) : Bool := decide (l.length ≤ 200) && offG 0 l

theorem off_step {p : Int} {l : List Int} {k : Nat} (hk : k < l.length) : offG p (l.drop k) = (decide (p < l[k]) && (decide (l[k] ≤ 999999999) && offG l[k] (l.drop (k + 1)))) := by
  rw [List.drop_eq_getElem_cons hk]
  rfl

theorem off_end (p : Int) (l : List Int) : offG p (l.drop l.length) = true := by simp [offG]

set_option maxHeartbeats 1000000 in
theorem implOff_val (a : Option Addr) (l : List Int) (cap : Nat) (w : World) (hz : l.length ≤ 1048576) (I : Ints w a l) :
    Calls Try.prog 28 #[.slice a l.length cap] w fun e w' => e = .returned (.bool (offB l)) ∧ w' = w := by
  by_cases h2 : l.length ≤ 200
  · have hd : decide ((200 : Int) < (l.length : Int)) = false := decide_eq_false (by omega)
    have HO : Hid (offB l = offG 0 l) := by show offB l = offG 0 l; unfold offB; rw [decide_eq_true h2, Bool.true_and]
    clear h2
    go_enter Try.func28, Try.ntmps28
    go_wp2
    go_loop [3, 11] (fun t i => ∃ (k : Nat) (p : Int), k ≤ l.length ∧ i = .int .i64 k ∧ t = .int .i64 p ∧ Hid (offG p (l.drop k) = offG 0 l)) (fun _ i => l.length - (intOf i).toNat)
    case atStart => exact ⟨0, 0, by omega, rfl, rfl, rfl⟩
    case round =>
      obtain ⟨k, p, hk, rfl, rfl, HP⟩ := hrel
      by_cases hkn : k < l.length
      · obtain ⟨b, o, rfl, hlt, hc⟩ := I.at k hkn
        have HS : Hid (_ = _) := (off_step (p := p) hkn).symm.trans HP.out
        clear HP
        generalize l[k] = x at *
        by_cases h3 : p < x
        · have d3 : decide (x ≤ p) = false := decide_eq_false (by omega)
          by_cases h4 : x ≤ 999999999
          · have d4 : decide ((999999999 : Int) < x) = false := decide_eq_false (by omega)
            have HN : Hid (offG x (l.drop (k + 1)) = offG 0 l) := by
              have := HS.out
              rw [decide_eq_true h3, decide_eq_true h4, Bool.true_and, Bool.true_and] at this
              exact this
            clear h3 h4 HS
            go_wp2
            go_round
            case rel => exact ⟨k + 1, x, by omega, by go_num, rfl, HN⟩
            case measure => simp [intOf]; omega
          · have d4 : decide ((999999999 : Int) < x) = true := decide_eq_true (by omega)
            have HN : Hid (offB l = false) := by
              show offB l = false
              rw [HO.out, ← HS.out, decide_eq_false h4]
              simp
            clear h3 h4 HS
            go_wp2
            go_ret
            exact ⟨by rw [HN.out] <;> rfl, rfl⟩
        · have d3 : decide (x ≤ p) = true := decide_eq_true (by omega)
          have HN : Hid (offB l = false) := by
            show offB l = false
            rw [HO.out, ← HS.out, decide_eq_false h3]
            simp
          clear h3 HS
          go_wp2
          go_ret
          exact ⟨by rw [HN.out] <;> rfl, rfl⟩
      · obtain rfl : k = l.length := by omega
        have HN : Hid (offB l = true) := by
          show offB l = true
          rw [HO.out, ← HP.out]
          exact off_end p l
        go_wp2
        go_ret
        exact ⟨by rw [HN.out] <;> rfl, rfl⟩
  · have hd : decide ((200 : Int) < (l.length : Int)) = true := decide_eq_true (by omega)
    have HO : Hid (offB l = false) := by show offB l = false; unfold offB; rw [decide_eq_false h2, Bool.false_and]
    clear h2
    go_enter Try.func28, Try.ntmps28
    go_wp2
    go_ret
    exact ⟨by rw [HO.out] <;> rfl, rfl⟩

/-- What stands ahead of place k. -/
def pre (l : List Int) (k : Nat) : Int := if k = 0 then 0 else l.getD (k - 1) 0

theorem pre_next {l : List Int} {k : Nat} (hk : k < l.length) : pre l (k + 1) = l[k] := by
  unfold pre
  rw [if_neg (by omega), List.getD_eq_getElem?_getD, Nat.add_sub_cancel, List.getElem?_eq_getElem hk]
  rfl

theorem off_first {p x : Int} {t : List Int} {r : Bool} (h : (decide (p < x) && (decide (x ≤ 999999999) && offG x t)) = r) (h1 : p < x) (h2 : x ≤ 999999999) : offG x t = r := by
  rw [decide_eq_true h1, decide_eq_true h2, Bool.true_and, Bool.true_and] at h
  exact h

theorem off_no {p x : Int} {t : List Int} {r : Bool} (h : (decide (p < x) && (decide (x ≤ 999999999) && offG x t)) = r) (h1 : ¬ (p < x ∧ x ≤ 999999999)) : r = false := by
  rw [← h]
  by_cases h2 : p < x
  · have h3 : ¬ x ≤ 999999999 := fun h3 => h1 ⟨h2, h3⟩
    rw [decide_eq_false h3]
    simp
  · rw [decide_eq_false h2]
    simp

theorem offG_pos : ∀ {p : Int} {l : List Int}, 0 ≤ p → offG p l = true → ∀ x ∈ l, 1 ≤ x
  | _, [], _, _, x, hx => by simp at hx
  | p, y :: t, hp, h, x, hx => by
    simp [offG] at h
    rcases List.mem_cons.1 hx with rfl | hx
    · omega
    · exact offG_pos (p := y) (by omega) h.2.2 x hx

set_option maxRecDepth 100000 in
set_option maxHeartbeats 4000000 in
theorem specOff_val (a : Option Addr) (l : List Int) (cap : Nat) (w : World) (hz : l.length ≤ 1048576) (I : Ints w a l) :
    Calls Try.prog 42 #[.slice a l.length cap] w fun e w' => e = .returned (.bool (offB l)) ∧ Drawn w w' := by
  have HO : Hid (offB l = (decide (l.length ≤ 200) && offG 0 l)) := rfl
  have HI : Hid (_ ∨ _) := I
  go_enter Try.func42, Try.ntmps42
  go_wp2
  go_loopw [3] (fun i wr => ∃ (k : Nat), k ≤ l.length ∧ i = .int .i64 k ∧ Drawn w wr ∧ Hid (offG (pre l k) (l.drop k) = offG 0 l) ∧ 0 ≤ pre l k) (fun i _ => l.length - (intOf i).toNat)
  case atStart => exact ⟨0, by omega, rfl, Drawn.refl _, rfl, by simp [pre]⟩
  case round =>
    obtain ⟨k, hk, rfl, hD, HP, hpp⟩ := hrel
    by_cases hkn : k < l.length
    · have IR : Ints wr a l := Ints.on HI.out (hD.below _)
      obtain ⟨b, o, rfl, hlt, hc⟩ := IR.at k hkn
      have HS : Hid (_ = _) := (off_step (p := pre l k) hkn).symm.trans HP.out
      have HX : Hid (pre l (k + 1) = l[k]) := pre_next hkn
      clear HP
      by_cases h1 : inB l[k] 1 999999999 = true
      · have HIN : Hid (∀ W : World, _) := fun W => ins_yes l[k] 1 999999999 W h1
        obtain ⟨hx1, hx2⟩ := in_is.1 h1
        clear h1
        by_cases h0 : k = 0
        · have HN : Hid (offG (pre l (k + 1)) (l.drop (k + 1)) = offG 0 l) := by
            show _ = _
            rw [HX.out]
            refine off_first HS.out ?_ hx2
            have : pre l k = 0 := by simp [pre, h0]
            omega
          have HP' : Hid (0 ≤ pre l (k + 1)) := by show 0 ≤ _; rw [HX.out]; omega
          have dk : decide ((0 : Int) < (k : Int)) = false := decide_eq_false (by omega)
          have dk2 : decide (0 < k) = false := decide_eq_false (by omega)
          generalize l[k] = x at *
          clear HS HX h0
          go_wp2
          go_quiet ((go_at_call 34; exact Calls.quiet_of_same (HIN.out _)))
          go_wp2
          go_roundw
          case rel => exact ⟨k + 1, by omega, by go_num, hD.more _, HN, HP'.out⟩
          case measure => simp [intOf]; omega
        · have hk1 : k - 1 < l.length := by omega
          obtain ⟨b', o', e', -, hc'⟩ := IR.at (k - 1) hk1
          simp only [Option.some.injEq, Addr.mk.injEq, and_true] at e'
          obtain ⟨rfl, rfl⟩ := e'
          have HQ : Hid (pre l k = l[k - 1]) := by
            show _ = _
            have := pre_next hk1
            rwa [Nat.sub_add_cancel (by omega)] at this
          have hw : IntKind.i64.wrap ((k : Int) - 1) = ((k - 1 : Nat) : Int) := by rw [IntKind.wrap_i64]; omega
          have hw3 : wrap64 ((k : Int) - 1) = ((k - 1 : Nat) : Int) := by unfold wrap64; omega
          have dk2 : decide (0 < k) = true := decide_eq_true (by omega)
          have dk : decide ((0 : Int) < (k : Int)) = true := decide_eq_true (by omega)
          have hkm : k - 1 < l.length := hk1
          by_cases h3 : pre l k < l[k]
          · have HN : Hid (offG (pre l (k + 1)) (l.drop (k + 1)) = offG 0 l) := by
              show _ = _
              rw [HX.out]
              exact off_first HS.out h3 hx2
            have HP' : Hid (0 ≤ pre l (k + 1)) := by show 0 ≤ _; rw [HX.out]; omega
            rw [HQ.out] at h3
            generalize l[k] = x at *
            generalize l[k - 1] = y at *
            generalize hj : k - 1 = j at *
            have d3 : decide (x ≤ y) = false := decide_eq_false (by omega)
            clear HS HX HQ h3
            go_wp2
            go_quiet ((go_at_call 34; exact Calls.quiet_of_same (HIN.out _)))
            go_wp2
            go_roundw
            case rel => exact ⟨k + 1, by omega, by go_num, hD.more _, HN, HP'.out⟩
            case measure => simp [intOf]; omega
          · have HN : Hid (offB l = false) := by
              show offB l = false
              rw [HO.out, off_no HS.out (fun h => h3 h.1)]
              simp
            rw [HQ.out] at h3
            generalize l[k] = x at *
            generalize l[k - 1] = y at *
            generalize hj : k - 1 = j at *
            have d3 : decide (x ≤ y) = true := decide_eq_true (by omega)
            clear HS HX HQ h3
            go_wp2
            go_quiet ((go_at_call 34; exact Calls.quiet_of_same (HIN.out _)))
            go_wp2
            go_ret
            exact ⟨by rw [HN.out] <;> rfl, hD.more _⟩
      · have h1' : inB l[k] 1 999999999 = false := by simpa using h1
        have HIN : Hid (∀ W : World, _) := fun W => ins_no l[k] 1 999999999 W h1'
        have hno : ¬ (pre l k < l[k] ∧ l[k] ≤ 999999999) := fun h => in_not.1 h1' ⟨by omega, h.2⟩
        have HN : Hid (offB l = false) := by
          show offB l = false
          rw [HO.out, off_no HS.out hno]
          simp
        clear h1 h1' hno HS HX
        generalize l[k] = x at *
        go_wp2
        go_quiet ((go_at_call 34; exact Calls.quiet_of_same (HIN.out _)))
        go_wp2
        go_ret
        exact ⟨by rw [HN.out] <;> rfl, hD.more _⟩
    · obtain rfl : k = l.length := by omega
      have HN : Hid (offB l = decide (l.length ≤ 200)) := by
        show offB l = _
        rw [HO.out, ← HP.out, off_end, Bool.and_true]
      go_wp2
      go_ret
      refine ⟨?_, hD⟩
      rw [HN.out]
      congr 2
      simp
      try omega

end Hn
end Go.Proofs.Ytbmfhdlbbaabgaa

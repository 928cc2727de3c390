/- The contract of the program's Unframe. -/
import Derived.Test.YtcifgableeeooalDoorFrAns
import Derived.Test.YtcifgableeeooalDoorFrJoin
import Derived.Test.YtcifgableeeooalDoorUnUnpI
namespace Go.Proofs.YtcifgableeeooalDoor
namespace Fr
open Go.ChangeShapes Go.WideShapes Go.ChangeAt Go.RowKit
open Pk (new_below join_below cell_at heap_new frozen_at lt_of kept heap_old)
open Math (unpC unpT)
open Num (rmR rmS)
set_option linter.unusedSimpArgs false
set_option linter.unusedVariables false

/-- How the parts of a frame come out. -/
def PEnd (s : ByteArray) (e : Ending) (w' : World) : Prop := ∃ a m cp g, e = .returned (.tuple #[.slice a m cp, .int .i64 (fC s : Nat)]) ∧ ((fC s ≠ 0 ∧ m = 0 ∧ a = none ∧ cp = 0) ∨ (fC s = 0 ∧ m = 3 ∧ a = some ⟨g, 0, none⟩ ∧ g < w'.heap.size ∧ w'.heap[g]? = some (.cells (parts (fN s) (fR s) (fS s) (fP s)) 53 (0, 0))))

theorem pend_no {s : ByteArray} {e : Ending} {w' : World} {c : Nat} (h : fC s = c) (hc : c ≠ 0) (he : e = .returned (.tuple #[.slice none 0 0, .int .i64 (c : Nat)])) : PEnd s e w' := ⟨none, 0, 0, 0, by rw [he, h], Or.inl ⟨by rw [h]; exact hc, rfl, rfl, rfl⟩⟩

theorem below_of {B : Nat} {w w1 : World} (h : Num.Drawn w w1) : Below B w w1 := by
  obtain ⟨q, rfl⟩ := h
  exact ⟨rfl, rfl, rfl, Nat.le_refl _, fun _ _ => rfl⟩

theorem neq_dec (a b : Nat) : ((a : Int) != (b : Int)) = decide (a ≠ b) := by
  by_cases h : a = b
  · subst h; simp
  · simp [h]; omega

set_option maxRecDepth 100000 in
set_option maxHeartbeats 4000000 in
theorem parts_val (s : ByteArray) (w : World) (hm : s.size ≤ 1048576) (R : Pk.Runs w) :
    Calls Tryd.prog 10 #[.string s] w fun e w' => PEnd s e w' ∧ Below w.heap.size w w' := by
  have hML : s.size ≤ maxLen := by unfold maxLen; omega
  have HCP : Hid (∀ W : World, _) := fun W => Tryd.strings_CutPrefix s hd5 W
  rcases f_cases s with ⟨b1, hc⟩ | ⟨g1, b2, hc⟩ | ⟨g1, g2, b3, hc⟩ | ⟨g1, g2, g3, b4, hc⟩ | ⟨g1, g2, g3, g4, hc⟩
  · rw [prefix_no s b1] at HCP
    have HC : Hid (fC s = 1) := hc
    clear b1 hc
    generalize (⟨(Lib.trimPrefix s.data.toList hd5.data.toList).toArray⟩ : ByteArray) = X at *
    go_enter Tryd.func10, Tryd.ntmps10
    go_wp2_with fail
    refine (HCP.out _).mono ?_
    rintro e w1 ⟨rfl, rfl⟩
    go_wp2
    go_ret2
    exact ⟨pend_no HC.out (by omega) rfl, Below.refl _ _⟩
  all_goals
    have q1 : 5 ≤ s.size ∧ s.extract 0 5 = hd5 := by
      unfold Bad1 at g1
      by_cases h5 : 5 ≤ s.size
      · exact ⟨h5, Classical.byContradiction fun h => g1 (Or.inr h)⟩
      · exact absurd (Or.inl h5) g1
    obtain ⟨p1, p2⟩ := prefix_yes s q1.1 q1.2
    rw [p1, p2] at HCP
    have z1 : (s.extract 5 s.size).size = s.size - 5 := ext_size s 5 s.size (Nat.le_refl _)
    have HK : Hid (∀ W : World, _) := fun W => implCut_val (s.extract 5 s.size) W
    have hq5 := q1.1
    clear g1 p1 p2 q1
  · have HC : Hid (fC s = 2) := hc
    clear hc
    by_cases h9 : 9 ≤ s.size ∧ dg (s.extract 5 9) 4 ≠ none
    · obtain ⟨n, hn⟩ := Option.ne_none_iff_exists'.1 h9.2
      obtain ⟨c1, c2, c3⟩ := cut_yes (r := s.extract 5 s.size) (n := n) (by omega) (by rw [cut_rest s 5 (by omega)]; exact hn)
      rw [c1, c2, c3, ext_ext] at HK
      have z2 : (s.extract (5 + 4) s.size).size = s.size - 9 := ext_size s 9 s.size (Nat.le_refl _)
      have h17 : s.size < 17 := by
        rcases b2 with h | h
        · exact h
        · exact absurd h h9.2
      have d8 : ((s.extract (5 + 4) s.size).size : Int) < 8 := by omega
      generalize s.extract (5 + 4) s.size = r2 at *
      generalize s.extract 5 s.size = r1 at *
      clear c1 c2 c3 hn h9 b2 z1 z2
      go_enter Tryd.func10, Tryd.ntmps10
      go_wp2_with fail
      refine (HCP.out _).mono ?_
      rintro e w1 ⟨rfl, rfl⟩
      go_wp2_with fail
      refine (HK.out _).mono ?_
      rintro e w2 ⟨rfl, D2⟩
      go_wp2
      go_ret2
      exact ⟨pend_no HC.out (by omega) rfl, below_of D2⟩
    · obtain ⟨c1, c2, c3⟩ := cut_no (r := s.extract 5 s.size) (by
        by_cases h : 9 ≤ s.size
        · right
          rw [cut_rest s 5 (by omega)]
          exact Classical.byContradiction fun h2 => h9 ⟨h, h2⟩
        · left
          omega)
      rw [c1, c2, c3] at HK
      generalize s.extract 5 s.size = r1 at *
      clear c1 c2 c3 h9 b2 z1
      go_enter Tryd.func10, Tryd.ntmps10
      go_wp2_with fail
      refine (HCP.out _).mono ?_
      rintro e w1 ⟨rfl, rfl⟩
      go_wp2_with fail
      refine (HK.out _).mono ?_
      rintro e w2 ⟨rfl, D2⟩
      go_wp2
      go_ret2
      exact ⟨pend_no HC.out (by omega) rfl, below_of D2⟩
  all_goals
    have q2 : 17 ≤ s.size ∧ ∃ n, dg (s.extract 5 9) 4 = some n := by
      unfold Bad2 at g2
      exact ⟨by omega, Option.ne_none_iff_exists'.1 fun h => g2 (Or.inr h)⟩
    obtain ⟨h17, n, hn⟩ := q2
    obtain ⟨c1, c2, c3⟩ := cut_yes (r := s.extract 5 s.size) (n := n) (by omega) (by rw [cut_rest s 5 (by omega)]; exact hn)
    rw [c1, c2, c3, ext_ext] at HK
    have z2 : (s.extract (5 + 4) s.size).size = s.size - 9 := ext_size s 9 s.size (Nat.le_refl _)
    have HE8 : Hid ((s.extract (5 + 4) s.size).extract 0 8 = s.extract 9 17) := ext_in s 9 0 8 (by omega)
    have HE9 : Hid ((s.extract (5 + 4) s.size).extract 8 (s.extract (5 + 4) s.size).size = s.extract 17 s.size) := ext_ext s 9 8
    have HMK : Hid (∀ W : World, _) := fun W => Num.implReadMark_val (s.extract 9 17) W (by rw [ext_size s 9 17 h17]; unfold maxLen; omega)
    have HK3 : Hid (∀ W : World, _) := fun W => implCut_val (s.extract 17 s.size) W
    have z3 : (s.extract 17 s.size).size = s.size - 17 := ext_size s 17 s.size (Nat.le_refl _)
    have d8 : ¬ ((s.extract (5 + 4) s.size).size : Int) < 8 := by omega
    have d8b : (8 : Int) ≤ ((s.extract (5 + 4) s.size).size : Int) := by omega
    have z4 : (s.extract 21 s.size).size = s.size - 21 := ext_size s 21 s.size (Nat.le_refl _)
    have hlt := R.lt
    clear c1 c2 c3 g2 z2
  · have HC : Hid (fC s = 3) := hc
    clear hc
    by_cases h21 : 21 ≤ s.size ∧ dg (s.extract 17 21) 4 ≠ none
    · obtain ⟨k, hk⟩ := Option.ne_none_iff_exists'.1 h21.2
      obtain ⟨c1, c2, c3⟩ := cut_yes (r := s.extract 17 s.size) (n := k) (by omega) (by rw [cut_rest s 17 (by omega)]; exact hk)
      rw [c1, c2, c3, ext_ext] at HK3
      have z5 : (s.extract (17 + 4) s.size).size = s.size - 21 := z4
      have hne : (s.extract (17 + 4) s.size).size ≠ k := by
        intro h
        rcases b3 with h2 | h2
        · omega
        · apply h2
          rw [hk, ← h, z5]
      have d9 : (((s.extract (17 + 4) s.size).size : Int) != (k : Int)) = true := by rw [neq_dec]; exact decide_eq_true hne
      have d9b : ¬ (((s.extract (17 + 4) s.size).size : Int) = (k : Int)) := by omega
      generalize s.extract (17 + 4) s.size = r4 at *
      generalize s.extract 17 s.size = r3 at *
      generalize rmR (s.extract 9 17) = mR at *
      generalize rmS (s.extract 9 17) = mS at *
      generalize decide ((s.extract 9 17).size = 8) = mB at *
      generalize s.extract 9 17 = mt at *
      generalize s.extract (5 + 4) s.size = r2 at *
      generalize s.extract 5 s.size = r1 at *
      clear c1 c2 c3 hk h21 b3 z1 z3 z4 z5 hn hne
      go_enter Tryd.func10, Tryd.ntmps10
      go_wp2_with fail
      refine (HCP.out _).mono ?_
      rintro e w1 ⟨rfl, rfl⟩
      go_wp2_with fail
      refine (HK.out _).mono ?_
      rintro e w2 ⟨rfl, D2⟩
      go_wp2_with fail
      rw [HE8.out]
      refine (HMK.out _).mono ?_
      rintro e w3 ⟨rfl, L3⟩
      have L4 := join_below (below_of D2) L3
      have N5 := new_below w3 (.cells #[.int .i64 mR, .int .i64 mS] 23)
      have L5 := join_below L4 N5
      go_wp2_with fail
      rw [HE9.out]
      refine (HK3.out _).mono ?_
      rintro e w6 ⟨rfl, D6⟩
      have L6 := join_below L5 (below_of D6)
      go_wp2
      go_ret2
      exact ⟨pend_no HC.out (by omega) rfl, L6⟩
    · obtain ⟨c1, c2, c3⟩ := cut_no (r := s.extract 17 s.size) (by
        by_cases h : 21 ≤ s.size
        · right
          rw [cut_rest s 17 (by omega)]
          exact Classical.byContradiction fun h2 => h21 ⟨h, h2⟩
        · left
          omega)
      rw [c1, c2, c3] at HK3
      generalize s.extract 17 s.size = r3 at *
      generalize rmR (s.extract 9 17) = mR at *
      generalize rmS (s.extract 9 17) = mS at *
      generalize decide ((s.extract 9 17).size = 8) = mB at *
      generalize s.extract 9 17 = mt at *
      generalize s.extract (5 + 4) s.size = r2 at *
      generalize s.extract 5 s.size = r1 at *
      clear c1 c2 c3 h21 b3 z1 z3 z4 hn
      go_enter Tryd.func10, Tryd.ntmps10
      go_wp2_with fail
      refine (HCP.out _).mono ?_
      rintro e w1 ⟨rfl, rfl⟩
      go_wp2_with fail
      refine (HK.out _).mono ?_
      rintro e w2 ⟨rfl, D2⟩
      go_wp2_with fail
      rw [HE8.out]
      refine (HMK.out _).mono ?_
      rintro e w3 ⟨rfl, L3⟩
      have L4 := join_below (below_of D2) L3
      have N5 := new_below w3 (.cells #[.int .i64 mR, .int .i64 mS] 23)
      have L5 := join_below L4 N5
      go_wp2_with fail
      rw [HE9.out]
      refine (HK3.out _).mono ?_
      rintro e w6 ⟨rfl, D6⟩
      have L6 := join_below L5 (below_of D6)
      go_wp2
      go_ret2
      exact ⟨pend_no HC.out (by omega) rfl, L6⟩
  all_goals
    have q3 : 21 ≤ s.size ∧ dg (s.extract 17 21) 4 = some (s.size - 21) := by
      unfold Bad3 at g3
      exact ⟨by omega, Classical.byContradiction fun h => g3 (Or.inr h)⟩
    obtain ⟨h21, hk⟩ := q3
    obtain ⟨c1, c2, c3⟩ := cut_yes (r := s.extract 17 s.size) (n := s.size - 21) (by omega) (by rw [cut_rest s 17 (by omega)]; exact hk)
    rw [c1, c2, c3, ext_ext] at HK3
    have z5 : (s.extract (17 + 4) s.size).size = s.size - 21 := z4
    have d9 : (((s.extract (17 + 4) s.size).size : Int) != ((s.size - 21 : Nat) : Int)) = false := by rw [z5]; simp
    have d9b : ((s.extract (17 + 4) s.size).size : Int) = ((s.size - 21 : Nat) : Int) := by rw [z5]
    have HUN : Hid (∀ (W : World) (r : Pk.Runs W), _) := fun W r => Pk.implUnpack_val (s.extract (17 + 4) s.size) W r
    clear c1 c2 c3 g3 hk
  · have HC : Hid (fC s = 4) := hc
    have b4' : unpC (s.extract (17 + 4) s.size) ≠ 0 := b4
    generalize unpT (s.extract (17 + 4) s.size) = T5 at *
    generalize unpC (s.extract (17 + 4) s.size) = C5 at *
    have d10 : ((C5 : Int) != 0) = true := by simp; exact b4'
    have d10b : ¬ ((C5 : Int) = 0) := by omega
    generalize s.size - 21 = k at *
    generalize s.extract (17 + 4) s.size = r4 at *
    generalize s.extract 17 s.size = r3 at *
    generalize rmR (s.extract 9 17) = mR at *
    generalize rmS (s.extract 9 17) = mS at *
    generalize decide ((s.extract 9 17).size = 8) = mB at *
    generalize s.extract 9 17 = mt at *
    generalize s.extract (5 + 4) s.size = r2 at *
    generalize s.extract 5 s.size = r1 at *
    clear hc b4 b4' z1 z3 z4 z5 hn d9b h21
    go_enter Tryd.func10, Tryd.ntmps10
    go_wp2_with fail
    refine (HCP.out _).mono ?_
    rintro e w1 ⟨rfl, rfl⟩
    go_wp2_with fail
    refine (HK.out _).mono ?_
    rintro e w2 ⟨rfl, D2⟩
    go_wp2_with fail
    rw [HE8.out]
    refine (HMK.out _).mono ?_
    rintro e w3 ⟨rfl, L3⟩
    have L4 := join_below (below_of D2) L3
    have N5 := new_below w3 (.cells #[.int .i64 mR, .int .i64 mS] 23)
    have L5 := join_below L4 N5
    go_wp2_with fail
    rw [HE9.out]
    refine (HK3.out _).mono ?_
    rintro e w6 ⟨rfl, D6⟩
    have L6 := join_below L5 (below_of D6)
    have R6 := R.on L6 hlt
    go_wp2_with fail
    refine (HUN.out _ R6).mono ?_
    rintro e w7 ⟨rfl, L7⟩
    have L8 := join_below L6 L7
    go_wp2
    go_ret2
    exact ⟨pend_no HC.out (by omega) rfl, L8⟩
  · have HC : Hid (fC s = 0) := hc
    have g4' : unpC (s.extract (17 + 4) s.size) = 0 := Classical.byContradiction fun h => g4 h
    obtain ⟨f1, f2, f3, f4⟩ := f_yes hc
    rw [digI_some hn] at f1
    have f4' : fP s = unpT (s.extract (17 + 4) s.size) := f4
    have HFF : Hid (_ ∧ _ ∧ _ ∧ _) := ⟨f1, f2, f3, f4'⟩
    rw [g4'] at HUN
    generalize unpT (s.extract (17 + 4) s.size) = T5 at *
    generalize s.size - 21 = k at *
    generalize s.extract (17 + 4) s.size = r4 at *
    generalize s.extract 17 s.size = r3 at *
    generalize rmR (s.extract 9 17) = mR at *
    generalize rmS (s.extract 9 17) = mS at *
    generalize decide ((s.extract 9 17).size = 8) = mB at *
    generalize s.extract 9 17 = mt at *
    generalize s.extract (5 + 4) s.size = r2 at *
    generalize s.extract 5 s.size = r1 at *
    clear hc g4 g4' z1 z3 z4 z5 hn d9b h21 f1 f2 f3 f4 f4'
    go_enter Tryd.func10, Tryd.ntmps10
    go_wp2_with fail
    refine (HCP.out _).mono ?_
    rintro e w1 ⟨rfl, rfl⟩
    go_wp2_with fail
    refine (HK.out _).mono ?_
    rintro e w2 ⟨rfl, D2⟩
    go_wp2_with fail
    rw [HE8.out]
    refine (HMK.out _).mono ?_
    rintro e w3 ⟨rfl, L3⟩
    have L4 := join_below (below_of D2) L3
    have N5 := new_below w3 (.cells #[.int .i64 mR, .int .i64 mS] 23)
    have m5 := heap_new w3 (.cells #[.int .i64 mR, .int .i64 mS] 23)
    have L5 := join_below L4 N5
    go_wp2_with fail
    rw [HE9.out]
    refine (HK3.out _).mono ?_
    rintro e w6 ⟨rfl, D6⟩
    have m6 := kept (below_of (B := (w3.alloc (.cells #[.int .i64 mR, .int .i64 mS] 23)).heap.size) D6) (lt_of m5) m5
    have L6 := join_below L5 (below_of D6)
    have R6 := R.on L6 hlt
    go_wp2_with fail
    refine (HUN.out _ R6).mono ?_
    rintro e w7 ⟨rfl, L7⟩
    have m7 := kept L7 (lt_of m6) m6
    have q0 : w7.cell? ⟨w3.heap.size, 0, none⟩ = some (.int .i64 mR) := cell_at m7 0
    have q1 : w7.cell? ⟨w3.heap.size, 1, none⟩ = some (.int .i64 mS) := cell_at m7 1
    have L8 := join_below L6 L7
    have N9 := new_below w7 (.cells (parts (n : Int) mR mS T5) 53)
    have m9 := heap_new w7 (.cells (parts (n : Int) mR mS T5) 53)
    have L9 := join_below L8 N9
    have l9 := lt_of m9
    go_wp2
    go_ret2
    refine ⟨⟨some ⟨w7.heap.size, 0, none⟩, 3, 3, w7.heap.size, by rw [HC.out]; rfl, Or.inr ⟨HC.out, rfl, rfl, l9, ?_⟩⟩, L9⟩
    rw [HFF.out.1, HFF.out.2.1, HFF.out.2.2.1, HFF.out.2.2.2]
    exact m9

set_option maxRecDepth 100000 in
set_option maxHeartbeats 4000000 in
theorem implUnframe_val (s : ByteArray) (w : World) (hm : s.size ≤ 1048576) (R : Pk.Runs w) :
    Calls Tryd.prog 5 #[.string s] w fun e w' => e = .returned (u4 (fN s) (fR s) (fS s) (fP s) (fC s : Nat)) ∧ Below w.heap.size w w' := by
  have HPV : Hid (∀ (W : World) (r : Pk.Runs W), _) := fun W r => parts_val s W hm r
  have N := new_below w (.cells #[.int .i64 0, .int .i64 0] 23)
  have m0 := heap_new w (.cells #[.int .i64 0, .int .i64 0] 23)
  have hlt := R.lt
  go_enter Tryd.func5, Tryd.ntmps5
  go_wp2_with fail
  refine (HPV.out _ (R.on N hlt)).mono ?_
  generalize w.alloc (.cells #[.int .i64 0, .int .i64 0] 23) = W at *
  rintro e w1 ⟨⟨a, m, cp, g, rfl, HP⟩, L1⟩
  have HJ : Hid (∀ _ : Unit, _) := fun _ => join_val (fN s) (fR s) (fS s) (fP s) m g cp a w1 (by rcases HP with ⟨-, h1, h2, h3⟩ | ⟨-, h1, h2, h3, h4⟩; exact Or.inl ⟨h1, h2, h3⟩; exact Or.inr ⟨h1, h2, h3, h4⟩)
  go_wp2_with fail
  refine (HJ.out ()).mono ?_
  rintro e w2 ⟨⟨n', r', s', p', rfl, HF⟩, L2⟩
  have hE : n' = fN s ∧ r' = fR s ∧ s' = fS s ∧ p' = fP s := by
    unfold Far at HF
    rcases HP with ⟨h0, rfl, -⟩ | ⟨h0, rfl, -⟩
    · obtain ⟨i1, i2, i3, i4⟩ := f_no h0
      rcases HF with ⟨-, h1, h2, h3, h4⟩ | ⟨h, -⟩ | ⟨h, -⟩ | ⟨h, -⟩
      · exact ⟨by rw [h1, i1], by rw [h2, i2], by rw [h3, i3], by rw [h4, i4]⟩
      all_goals omega
    · rcases HF with ⟨h, -⟩ | ⟨h, -⟩ | ⟨h, -⟩ | ⟨-, h1, h2, h3, h4⟩
      · omega
      · omega
      · omega
      · exact ⟨h1, h2, h3, h4⟩
  obtain ⟨rfl, rfl, rfl, rfl⟩ := hE
  have m1 := kept L1 (lt_of m0) m0
  have m2 := kept L2 (lt_of m1) m1
  have L3 := join_below N (join_below L1 L2)
  clear HP HF HJ HPV m1 m0 L1 L2
  have N3 := new_below w2 (.cells #[.int .i64 (fR s), .int .i64 (fS s)] 23)
  have x3 := heap_new w2 (.cells #[.int .i64 (fR s), .int .i64 (fS s)] 23)
  have m3 := kept N3 (lt_of m2) m2
  have L4 := join_below L3 N3
  have hne : w.heap.size ≠ w2.heap.size := by have := lt_of m2; omega
  go_wp2
  generalize w2.alloc (.cells #[.int .i64 (fR s), .int .i64 (fS s)] 23) = W3 at *
  have q0 : W3.cell? ⟨w2.heap.size, 0, none⟩ = some (.int .i64 (fR s)) := cell_at x3 0
  have q1 : W3.cell? ⟨w2.heap.size, 1, none⟩ = some (.int .i64 (fS s)) := cell_at x3 1
  have d0 : W3.cell? ⟨w.heap.size, 0, none⟩ = some (.int .i64 0) := cell_at m3 0
  have d1 : W3.cell? ⟨w.heap.size, 1, none⟩ = some (.int .i64 0) := cell_at m3 1
  have f0 := frozen_at m3 0
  have f1 := frozen_at m3 1
  have HS : Hid (_) := set_two _ w.heap.size _ _ (.int .i64 (fR s)) (.int .i64 (fS s)) _ m3
  have HL : Hid (Below w.heap.size w ((W3.setCell ⟨w.heap.size, 0, none⟩ (.int .i64 (fR s))).setCell ⟨w.heap.size, 1, none⟩ (.int .i64 (fS s)))) := (L4.setCell (p := ⟨w.heap.size, 0, none⟩) (Nat.le_refl _) _).setCell (p := ⟨w.heap.size, 1, none⟩) (Nat.le_refl _) _
  clear m3 x3 m2 L3 N3 L4 N
  go_region
  all_goals
    go_wp2
    have mE := HS.out
    have HLD := HL.out.drew
    generalize (W3.setCell ⟨w.heap.size, 0, none⟩ (.int .i64 (fR s))).setCell ⟨w.heap.size, 1, none⟩ (.int .i64 (fS s)) = WE at *
    have k0 : WE.drew.cell? ⟨w.heap.size, 0, none⟩ = some (.int .i64 (fR s)) := cell_at (w := WE.drew) mE 0
    have k1 : WE.drew.cell? ⟨w.heap.size, 1, none⟩ = some (.int .i64 (fS s)) := cell_at (w := WE.drew) mE 1
    refine bodyPost_ret (v := u4 (fN s) (fR s) (fS s) (fP s) (fC s : Nat)) (by simp [results, Tryd.results5, go_sem, k0, k1]) rfl ?_
    exact ⟨rfl, HLD⟩

end Fr
end Go.Proofs.YtcifgableeeooalDoor

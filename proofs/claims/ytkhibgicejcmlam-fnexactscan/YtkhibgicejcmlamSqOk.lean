/- Contracts of SquareOk and of the index of a field, of the program and of its model, and of the laws' own helpers over squares. -/
import Derived.Test.YtkhibgicejcmlamSqWay
namespace Go.Proofs.Ytkhibgicejcmlam
namespace Sq
open Go.ChangeShapes Go.WideShapes Go.ChangeAt Go.RowKit
open Pk (Drawn)
set_option linter.unusedSimpArgs false
set_option linter.unusedVariables false

/-- A square's value. -/
def sqV (n : Int) (s : ByteArray) : Value := .agg #[.int .i64 n, .string s]

/-- The signs from a place on are right. -/
def signsFrom (s : ByteArray) (i : Nat) : Bool := (s.data.toList.drop i).all fun b => decide (b.toNat = 48 ∨ b.toNat = 49)

theorem signsFrom_step (s : ByteArray) (i : Nat) (h : i < s.size) : signsFrom s i = (decide (s[i].toNat = 48 ∨ s[i].toNat = 49) && signsFrom s (i + 1)) := by
  unfold signsFrom
  have h1 : i < s.data.toList.length := by rw [Array.length_toList]; exact h
  rw [List.drop_eq_getElem_cons h1, List.all_cons]
  rfl

theorem signsFrom_end (s : ByteArray) (i : Nat) (h : ¬ i < s.size) : signsFrom s i = true := by
  unfold signsFrom
  rw [List.drop_eq_nil_of_le (by rw [Array.length_toList]; exact Nat.le_of_not_lt h)]
  rfl

def headOk (n : Int) (s : ByteArray) : Bool := decide (9 ≤ n ∧ n ≤ 61 ∧ n % 2 = 1 ∧ (s.size : Int) = n * n)

/-- What SquareOk answers. -/
def okQ (n : Int) (s : ByteArray) : Bool := headOk n s && signsFrom s 0

set_option maxRecDepth 100000 in
theorem specOk_val (n : Int) (s : ByteArray) (w : World) (hs : s.size ≤ maxLen) :
    Calls Try.prog 27 #[sqV n s] w fun e w' => e = .returned (.bool (okQ n s)) ∧ Below w.heap.size w w' := by
  unfold maxLen at hs
  have N := Pk.new_below w (.cells #[.int .i64 n, .string s] 25)
  by_cases h : 9 ≤ n ∧ n ≤ 61
  · have HB : Hid (∀ w, _) := fun w => in_val n 9 61 w
    have e1 : inB n 9 61 = true := decide_eq_true h
    rw [e1] at HB
    obtain ⟨m, rfl⟩ : ∃ m : Nat, n = m := ⟨n.toNat, by omega⟩
    have hmm : m * m ≤ 61 * 61 := Nat.mul_le_mul (by omega) (by omega)
    have e3 : (m : Int) * m = (m * m : Nat) := by simp
    have ht : Int.tmod (m : Int) 2 = ((m % 2 : Nat) : Int) := by rw [Int.tmod_eq_emod_of_nonneg (by omega)]; omega
    by_cases h2 : m % 2 = 1
    · have hk : ((m % 2 : Nat) : Int) = 1 := by omega
      rw [hk] at ht
      by_cases h3 : s.size = m * m
      · have HO : Hid (okQ m s = signsFrom s 0) := by
          show _ = _
          unfold okQ headOk
          rw [decide_eq_true (by rw [e3, h3]; omega), Bool.true_and]
        have hz : ((s.size : Int) == (m : Int) * m) = true := by rw [e3, h3]; simp
        generalize okQ m s = ok at *
        clear e1 e3 hk
        have e4 : (m : Int) * m = (s.size : Int) := by rw [h3]; simp
        have hs4 : s.size ≤ 3721 := by omega
        unfold sqV
        clear h3
        go_enter Try.func27, Try.ntmps27
        go_wp2_with fail
        refine (HB.out _).mono ?_
        rintro e w1 ⟨rfl, rfl⟩
        go_wp2
        go_loop [3] (fun i => ∃ (k : Nat), k ≤ s.size ∧ i = .int .i64 k ∧ Hid (ok = signsFrom s k)) (fun i => s.size - (intOf i).toNat)
        case atStart => exact ⟨0, by omega, rfl, HO⟩
        case round =>
          obtain ⟨k, hk, rfl, H⟩ := hrel
          by_cases hks : k < s.size
          · have HS : Hid (_) := signsFrom_step s k hks
            have hb := s[k].toNat_lt
            by_cases k1 : (s[k].toNat : Int) = 48
            · have HE : Hid (ok = signsFrom s (k + 1)) := by show _ = _; rw [H.out, HS.out, decide_eq_true (by omega)]; rfl
              go_wp2
              go_round
              case rel => exact ⟨k + 1, by omega, by go_num, HE⟩
              case measure => simp [intOf]; omega
            · by_cases k2 : (s[k].toNat : Int) = 49
              · have HE : Hid (ok = signsFrom s (k + 1)) := by show _ = _; rw [H.out, HS.out, decide_eq_true (by omega)]; rfl
                go_wp2
                go_round
                case rel => exact ⟨k + 1, by omega, by go_num, HE⟩
                case measure => simp [intOf]; omega
              · have HE : Hid (ok = false) := by show _ = _; rw [H.out, HS.out, decide_eq_false (by omega)]; rfl
                have j1 : ((s[k].toNat : Int) == 48) = false := by simp; omega
                have j2 : ((s[k].toNat : Int) == 49) = false := by simp; omega
                have j3 : ((s[k].toNat : Int) != 48) = true := by simp; omega
                have j4 : ((s[k].toNat : Int) != 49) = true := by simp; omega
                go_wp2
                go_ret
                exact ⟨by rw [HE.out] <;> rfl, N⟩
          · have HE : Hid (ok = true) := by show _ = _; rw [H.out, signsFrom_end s k hks]
            go_wp2
            go_ret
            exact ⟨by rw [HE.out] <;> rfl, N⟩
      · have HO : Hid (okQ m s = false) := by
          show _ = _
          unfold okQ headOk
          rw [decide_eq_false (by rw [e3]; omega), Bool.false_and]
        have hz : ((s.size : Int) == (m : Int) * m) = false := by rw [e3]; simp; omega
        have h61 : (m : Int) * m ≤ 3721 := by rw [e3]; omega
        rw [HO.out]
        clear e1 e3 hk HO
        unfold sqV
        clear h3
        go_enter Try.func27, Try.ntmps27
        go_wp2_with fail
        refine (HB.out _).mono ?_
        rintro e w1 ⟨rfl, rfl⟩
        go_wp2
        go_ret
        exact ⟨rfl, N⟩
    · have hk : ((m % 2 : Nat) : Int) = 0 := by omega
      rw [hk] at ht
      have HO : Hid (okQ m s = false) := by
        show _ = _
        unfold okQ headOk
        rw [decide_eq_false (by omega), Bool.false_and]
      rw [HO.out]
      clear e1 e3 hk HO
      unfold sqV
      go_enter Try.func27, Try.ntmps27
      go_wp2_with fail
      refine (HB.out _).mono ?_
      rintro e w1 ⟨rfl, rfl⟩
      go_wp2
      go_ret
      exact ⟨rfl, N⟩
  · have HB : Hid (∀ w, _) := fun w => in_val n 9 61 w
    have e1 : inB n 9 61 = false := decide_eq_false h
    rw [e1] at HB
    have HO : Hid (okQ n s = false) := by
      show _ = _
      unfold okQ headOk
      rw [decide_eq_false (by omega), Bool.false_and]
    rw [HO.out]
    clear HO
    unfold sqV
    go_enter Try.func27, Try.ntmps27
    go_wp2_with fail
    refine (HB.out _).mono ?_
    rintro e w1 ⟨rfl, rfl⟩
    go_wp2
    go_ret
    exact ⟨rfl, N⟩

set_option maxRecDepth 100000 in
theorem implOk_val (n : Int) (s : ByteArray) (w : World) (hs : s.size ≤ maxLen) :
    Calls Try.prog 29 #[sqV n s] w fun e w' => e = .returned (.bool (okQ n s)) ∧ Below w.heap.size w w' := by
  unfold maxLen at hs
  have N := Pk.new_below w (.cells #[.int .i64 n, .string s] 25)
  by_cases h : 9 ≤ n ∧ n ≤ 61
  · have HB : Hid (∀ w, _) := fun w => between_val n 9 61 w
    have e1 : inB n 9 61 = true := decide_eq_true h
    rw [e1] at HB
    obtain ⟨m, rfl⟩ : ∃ m : Nat, n = m := ⟨n.toNat, by omega⟩
    have hmm : m * m ≤ 61 * 61 := Nat.mul_le_mul (by omega) (by omega)
    have e3 : (m : Int) * m = (m * m : Nat) := by simp
    have ht : Int.tmod (m : Int) 2 = ((m % 2 : Nat) : Int) := by rw [Int.tmod_eq_emod_of_nonneg (by omega)]; omega
    by_cases h2 : m % 2 = 1
    · have hk : ((m % 2 : Nat) : Int) = 1 := by omega
      rw [hk] at ht
      by_cases h3 : s.size = m * m
      · have HO : Hid (okQ m s = signsFrom s 0) := by
          show _ = _
          unfold okQ headOk
          rw [decide_eq_true (by rw [e3, h3]; omega), Bool.true_and]
        have hz : ((s.size : Int) == (m : Int) * m) = true := by rw [e3, h3]; simp
        generalize okQ m s = ok at *
        clear e1 e3 hk
        have e4 : (m : Int) * m = (s.size : Int) := by rw [h3]; simp
        have hs4 : s.size ≤ 3721 := by omega
        unfold sqV
        clear h3
        go_enter Try.func29, Try.ntmps29
        go_wp2_with fail
        refine (HB.out _).mono ?_
        rintro e w1 ⟨rfl, rfl⟩
        go_wp2
        go_loop [28] (fun i => ∃ (k : Nat), k ≤ s.size ∧ i = .int .i64 k ∧ Hid (ok = signsFrom s k)) (fun i => s.size - (intOf i).toNat)
        case atStart => exact ⟨0, by omega, rfl, HO⟩
        case round =>
          obtain ⟨k, hk, rfl, H⟩ := hrel
          by_cases hks : k < s.size
          · have HS : Hid (_) := signsFrom_step s k hks
            have hb := s[k].toNat_lt
            by_cases k1 : (s[k].toNat : Int) = 48
            · have HE : Hid (ok = signsFrom s (k + 1)) := by show _ = _; rw [H.out, HS.out, decide_eq_true (by omega)]; rfl
              go_wp2
              go_round
              case rel => exact ⟨k + 1, by omega, by go_num, HE⟩
              case measure => simp [intOf]; omega
            · by_cases k2 : (s[k].toNat : Int) = 49
              · have HE : Hid (ok = signsFrom s (k + 1)) := by show _ = _; rw [H.out, HS.out, decide_eq_true (by omega)]; rfl
                go_wp2
                go_round
                case rel => exact ⟨k + 1, by omega, by go_num, HE⟩
                case measure => simp [intOf]; omega
              · have HE : Hid (ok = false) := by show _ = _; rw [H.out, HS.out, decide_eq_false (by omega)]; rfl
                have j1 : ((s[k].toNat : Int) == 48) = false := by simp; omega
                have j2 : ((s[k].toNat : Int) == 49) = false := by simp; omega
                have j3 : ((s[k].toNat : Int) != 48) = true := by simp; omega
                have j4 : ((s[k].toNat : Int) != 49) = true := by simp; omega
                go_wp2
                go_ret
                exact ⟨by rw [HE.out] <;> rfl, N⟩
          · have HE : Hid (ok = true) := by show _ = _; rw [H.out, signsFrom_end s k hks]
            go_wp2
            go_ret
            exact ⟨by rw [HE.out] <;> rfl, N⟩
      · have HO : Hid (okQ m s = false) := by
          show _ = _
          unfold okQ headOk
          rw [decide_eq_false (by rw [e3]; omega), Bool.false_and]
        have hz : ((s.size : Int) == (m : Int) * m) = false := by rw [e3]; simp; omega
        have h61 : (m : Int) * m ≤ 3721 := by rw [e3]; omega
        rw [HO.out]
        clear e1 e3 hk HO
        unfold sqV
        clear h3
        go_enter Try.func29, Try.ntmps29
        go_wp2_with fail
        refine (HB.out _).mono ?_
        rintro e w1 ⟨rfl, rfl⟩
        go_wp2
        go_ret
        exact ⟨rfl, N⟩
    · have hk : ((m % 2 : Nat) : Int) = 0 := by omega
      rw [hk] at ht
      have HO : Hid (okQ m s = false) := by
        show _ = _
        unfold okQ headOk
        rw [decide_eq_false (by omega), Bool.false_and]
      rw [HO.out]
      clear e1 e3 hk HO
      unfold sqV
      go_enter Try.func29, Try.ntmps29
      go_wp2_with fail
      refine (HB.out _).mono ?_
      rintro e w1 ⟨rfl, rfl⟩
      go_wp2
      go_ret
      exact ⟨rfl, N⟩
  · have HB : Hid (∀ w, _) := fun w => between_val n 9 61 w
    have e1 : inB n 9 61 = false := decide_eq_false h
    rw [e1] at HB
    have HO : Hid (okQ n s = false) := by
      show _ = _
      unfold okQ headOk
      rw [decide_eq_false (by omega), Bool.false_and]
    rw [HO.out]
    clear HO
    unfold sqV
    go_enter Try.func29, Try.ntmps29
    go_wp2_with fail
    refine (HB.out _).mono ?_
    rintro e w1 ⟨rfl, rfl⟩
    go_wp2
    go_ret
    exact ⟨rfl, N⟩

theorem szSquare_val (n : Int) (s : ByteArray) (w : World) (hs : s.size ≤ maxLen) :
    Calls Try.prog 9 #[.agg #[.int .i64 n, .string s], .int .i64 1048576] w fun e w' => e = .returned (.int .i64 (if s.size ≤ 1048576 then 1048576 - (s.size : Int) else -1)) ∧ Below w.heap.size w w' := by
  unfold maxLen at hs
  have N := Pk.new_below w (.cells #[.int .i64 n, .string s] 23)
  by_cases h : s.size ≤ 1048576
  · rw [if_pos h]
    have hd : decide (1048576 - (s.size : Int) < 0) = false := decide_eq_false (by omega)
    go_enter Try.func9, Try.ntmps9
    go_wp2
    go_ret
    exact ⟨rfl, N⟩
  · rw [if_neg h]
    have hd : decide (1048576 - (s.size : Int) < 0) = true := decide_eq_true (by omega)
    go_enter Try.func9, Try.ntmps9
    go_wp2
    go_ret
    exact ⟨rfl, N⟩

theorem toSquare_val (n : Int) (s : ByteArray) (w : World) :
    Calls Try.prog 11 #[.agg #[.int .i64 n, .string s]] w fun e w' => e = .returned (sqV n s) ∧ Below w.heap.size w w' := by
  unfold sqV
  go_enter Try.func11, Try.ntmps11
  go_wp2
  refine bodyPost_ret (v := .agg #[.int .i64 n, .string s]) (by simp [results, Try.results11, go_sem]) rfl ?_
  exact ⟨rfl, ((((Below.refl _ _).alloc (Nat.le_refl _) _).alloc (by simp) _).alloc (by simp; omega) _)⟩

theorem eqSquare_same (n : Int) (s : ByteArray) (w : World) :
    Calls Try.prog 13 #[sqV n s, sqV n s] w fun e w' => e = .returned (.bool true) ∧ Below w.heap.size w w' := by
  unfold sqV
  go_enter Try.func13, Try.ntmps13
  go_wp2
  go_ret
  exact ⟨rfl, ((Below.refl _ _).alloc (Nat.le_refl _) _).alloc (by simp) _⟩

end Sq
end Go.Proofs.Ytkhibgicejcmlam

/- Contracts of the draws of chapter 1: each returns, with numbers of its range, and writes nothing that was there. -/
import Derived.Test.YtnmbhkecbpmhiaaCur
namespace Go.Proofs.Ytnmbhkecbpmhiaa
namespace Cur
open Go.ChangeShapes Go.WideShapes Go.ChangeAt Go.RowKit

theorem word_any {W0 : World} {a : Option Addr} {n cap c : Nat} {w : World} (C : Is W0 a n cap c w) :
    Calls Try.prog 48 #[.pointer (some ⟨c, 0, none⟩)] w fun e w' => (∃ x : Int, e = .returned (.int .u32 x) ∧ 0 ≤ x ∧ x ≤ 4294967295) ∧ Is W0 a n cap c w' := by
  go_enter Try.func48, Try.ntmps48
  go_wp2_with fail
  refine (below_any C _).mono ?_
  rintro e w1 ⟨⟨x, rfl, hx0, hx1⟩, C1, M1⟩
  have hx2 := hx1 (by omega)
  clear hx1
  by_cases h0 : x = 0
  · subst h0
    have hlt := C1.lt
    go_wp2_with fail
    refine (pickInt_any (C1.alloc _) (fun v => 0 ≤ v ∧ v ≤ 4294967295) w1.heap.size 11 11 (by omega) (by omega) (by omega) (rowOf_new _ w1 [0, 1, 2, 31, 32, 255, 256, 2147483647, 2147483648, 4294967295, 4294967294] _ (by intro z hz; simp at hz; omega))).mono ?_
    rintro e w2 ⟨⟨y, rfl, hy0, hy1⟩, C2, M2⟩
    go_wp2
    go_ret
    exact ⟨⟨_, rfl, hy0, hy1⟩, C2⟩
  · by_cases h1 : x = 1
    · subst h1
      go_wp2_with fail
      refine (below_any C1 _).mono ?_
      rintro e w2 ⟨⟨y, rfl, hy0, hy1⟩, C2, M2⟩
      have hy2 := hy1 (by omega)
      clear hy1
      go_wp2
      go_ret
      exact ⟨⟨_, rfl, by omega, by omega⟩, C2⟩
    · have g0 : (x == 0) = false := by rw [beq_eq_false_iff_ne]; omega
      have g1 : (x == 1) = false := by rw [beq_eq_false_iff_ne]; omega
      go_wp2_with fail
      refine (below_any C1 _).mono ?_
      rintro e w2 ⟨⟨y, rfl, hy0, hy1⟩, C2, M2⟩
      have hy2 := hy1 (by omega)
      clear hy1
      go_wp2_with fail
      refine (below_any C2 _).mono ?_
      rintro e w3 ⟨⟨z, rfl, hz0, hz1⟩, C3, M3⟩
      have hz2 := hz1 (by omega)
      clear hz1
      go_wp2
      go_ret
      exact ⟨⟨_, rfl, by omega, by omega⟩, C3⟩

theorem num_any {W0 : World} {a : Option Addr} {n cap c : Nat} {w : World} (C : Is W0 a n cap c w) :
    Calls Try.prog 32 #[.pointer (some ⟨c, 0, none⟩)] w fun e w' => (∃ x : Int, e = .returned (.int .i64 x) ∧ -9223372036854775808 ≤ x ∧ x ≤ 9223372036854775807) ∧ Is W0 a n cap c w' := by
  go_enter Try.func32, Try.ntmps32
  go_wp2_with fail
  refine (below_any C _).mono ?_
  rintro e w1 ⟨⟨x, rfl, hx0, hx1⟩, C1, M1⟩
  have hx2 := hx1 (by omega)
  clear hx1
  by_cases h0 : x = 0
  · subst h0
    have hlt := C1.lt
    go_wp2_with fail
    refine (pickInt_any (C1.alloc _) (fun v => -9223372036854775808 ≤ v ∧ v ≤ 9223372036854775807) w1.heap.size 8 8 (by omega) (by omega) (by omega) (rowOf_new _ w1 [0, 1, -1, 2, 2147483647, 2147483648, 9223372036854775807, -9223372036854775808] _ (by intro z hz; simp at hz; omega))).mono ?_
    rintro e w2 ⟨⟨y, rfl, hy0, hy1⟩, C2, M2⟩
    go_wp2
    go_ret
    exact ⟨⟨_, rfl, hy0, hy1⟩, C2⟩
  · by_cases h1 : x = 1
    · subst h1
      go_wp2_with fail
      refine (below_any C1 _).mono ?_
      rintro e w2 ⟨⟨y, rfl, hy0, hy1⟩, C2, M2⟩
      have hy2 := hy1 (by omega)
      clear hy1
      go_wp2
      go_ret
      exact ⟨⟨_, rfl, by omega, by omega⟩, C2⟩
    · have g0 : (x == 0) = false := by rw [beq_eq_false_iff_ne]; omega
      have g1 : (x == 1) = false := by rw [beq_eq_false_iff_ne]; omega
      go_wp2_with fail
      refine (word_any C1).mono ?_
      rintro e w2 ⟨⟨y, rfl, hy0, hy1⟩, C2⟩
      go_wp2
      go_ret
      exact ⟨⟨_, rfl, by omega, by omega⟩, C2⟩

theorem meas_any {W0 : World} {a : Option Addr} {n cap c : Nat} {w : World} (C : Is W0 a n cap c w) :
    Calls Try.prog 33 #[.pointer (some ⟨c, 0, none⟩)] w fun e w' => (∃ x : Int, e = .returned (.int .i64 x) ∧ -1 ≤ x ∧ x ≤ 2147483648) ∧ Is W0 a n cap c w' := by
  go_enter Try.func33, Try.ntmps33
  go_wp2_with fail
  refine (below_any C _).mono ?_
  rintro e w1 ⟨⟨x, rfl, hx0, hx1⟩, C1, M1⟩
  have hx2 := hx1 (by omega)
  clear hx1
  have hlt := C1.lt
  by_cases h0 : x = 0
  · subst h0
    go_wp2_with fail
    refine (pickInt_any (C1.alloc _) (fun v => -1 ≤ v ∧ v ≤ 2147483648) w1.heap.size 4 4 (by omega) (by omega) (by omega) (rowOf_new _ w1 [0, 1, -1, 2147483648] _ (by intro z hz; simp at hz; omega))).mono ?_
    rintro e w2 ⟨⟨y, rfl, hy0, hy1⟩, C2, M2⟩
    go_wp2
    go_ret
    exact ⟨⟨_, rfl, hy0, hy1⟩, C2⟩
  · have g0 : (x == 0) = false := by rw [beq_eq_false_iff_ne]; omega
    by_cases h1 : x = 1
    · subst h1
      go_wp2_with fail
      refine (pickInt_any (C1.alloc _) (fun v => -1 ≤ v ∧ v ≤ 2147483648) w1.heap.size 3 3 (by omega) (by omega) (by omega) (rowOf_new _ w1 [2, 2147483647, 2147483646] _ (by intro z hz; simp at hz; omega))).mono ?_
      rintro e w2 ⟨⟨y, rfl, hy0, hy1⟩, C2, M2⟩
      go_wp2
      go_ret
      exact ⟨⟨_, rfl, hy0, hy1⟩, C2⟩
    · have g1 : (x == 1) = false := by rw [beq_eq_false_iff_ne]; omega
      by_cases h2 : x = 2
      · subst h2
        go_wp2_with fail
        refine (word_any C1).mono ?_
        rintro e w2 ⟨⟨y, rfl, hy0, hy1⟩, C2⟩
        go_wp2
        go_ret
        exact ⟨⟨_, rfl, by omega, by omega⟩, C2⟩
      · have g2 : (x == 2) = false := by rw [beq_eq_false_iff_ne]; omega
        by_cases h3 : x = 3
        · subst h3
          go_wp2_with fail
          refine (word_any C1).mono ?_
          rintro e w2 ⟨⟨y, rfl, hy0, hy1⟩, C2⟩
          go_wp2
          go_ret
          exact ⟨⟨_, rfl, by omega, by omega⟩, C2⟩
        · have g3 : (x == 3) = false := by rw [beq_eq_false_iff_ne]; omega
          go_wp2_with fail
          refine (below_any C1 _).mono ?_
          rintro e w2 ⟨⟨y, rfl, hy0, hy1⟩, C2, M2⟩
          have hy2 := hy1 (by omega)
          clear hy1
          go_wp2
          go_ret
          exact ⟨⟨_, rfl, by omega, by omega⟩, C2⟩

/-- A number of the kind int. -/
def I64 (x : Int) : Prop := -9223372036854775808 ≤ x ∧ x ≤ 9223372036854775807

theorem drawPowMod (W0 : World) (a : Option Addr) (n cap : Nat) (hn : n ≤ 1048576) (B : Bytes W0 a n) :
    Calls Try.prog 7 #[.slice a n cap] W0 fun e w' => (∃ x y z : Int, e = .returned (.tuple #[.int .i64 x, .int .i64 y, .int .i64 z]) ∧ I64 x ∧ I64 y ∧ I64 z) ∧ Below W0.heap.size W0 w' := by
  go_enter Try.func7, Try.ntmps7
  go_wp2_with fail
  refine (new_any W0 a n cap hn B).mono ?_
  rintro e w1 ⟨rfl, C1⟩
  go_wp2_with fail
  refine (num_any C1).mono ?_
  rintro e w2 ⟨⟨x, rfl, hx⟩, C2⟩
  go_wp2_with fail
  refine (num_any C2).mono ?_
  rintro e w3 ⟨⟨y, rfl, hy⟩, C3⟩
  go_wp2_with fail
  refine (meas_any C3).mono ?_
  rintro e w4 ⟨⟨z, rfl, hz⟩, C4⟩
  go_wp2
  go_ret3
  exact ⟨⟨x, y, z, rfl, hx, hy, ⟨by omega, by omega⟩⟩, C4.below⟩

theorem drawInverse (W0 : World) (a : Option Addr) (n cap : Nat) (hn : n ≤ 1048576) (B : Bytes W0 a n) :
    Calls Try.prog 12 #[.slice a n cap] W0 fun e w' => (∃ x z : Int, e = .returned (.tuple #[.int .i64 x, .int .i64 z]) ∧ I64 x ∧ I64 z) ∧ Below W0.heap.size W0 w' := by
  go_enter Try.func12, Try.ntmps12
  go_wp2_with fail
  refine (new_any W0 a n cap hn B).mono ?_
  rintro e w1 ⟨rfl, C1⟩
  go_wp2_with fail
  refine (num_any C1).mono ?_
  rintro e w2 ⟨⟨x, rfl, hx⟩, C2⟩
  go_wp2_with fail
  refine (meas_any C2).mono ?_
  rintro e w4 ⟨⟨z, rfl, hz⟩, C4⟩
  go_wp2
  go_ret2
  exact ⟨⟨x, z, rfl, hx, ⟨by omega, by omega⟩⟩, C4.below⟩

theorem drawGcd (W0 : World) (a : Option Addr) (n cap : Nat) (hn : n ≤ 1048576) (B : Bytes W0 a n) :
    Calls Try.prog 18 #[.slice a n cap] W0 fun e w' => (∃ x z : Int, e = .returned (.tuple #[.int .i64 x, .int .i64 z]) ∧ I64 x ∧ I64 z) ∧ Below W0.heap.size W0 w' := by
  go_enter Try.func18, Try.ntmps18
  go_wp2_with fail
  refine (new_any W0 a n cap hn B).mono ?_
  rintro e w1 ⟨rfl, C1⟩
  go_wp2_with fail
  refine (num_any C1).mono ?_
  rintro e w2 ⟨⟨x, rfl, hx⟩, C2⟩
  go_wp2_with fail
  refine (once_any C2 _).mono ?_
  rintro e w3 ⟨⟨o, rfl⟩, C3, M3⟩
  cases o
  · go_wp2_with fail
    refine (num_any C3).mono ?_
    rintro e w4 ⟨⟨y, rfl, hy⟩, C4⟩
    go_wp2
    go_ret2
    exact ⟨⟨x, y, rfl, hx, hy⟩, C4.below⟩
  · go_wp2_with fail
    refine (below_any C3 _).mono ?_
    rintro e w4 ⟨⟨k, rfl, hk0, hk1⟩, C4, M4⟩
    have hk2 := hk1 (by omega)
    clear hk1
    go_wp2_with fail
    refine (below_any C4 _).mono ?_
    rintro e w5 ⟨⟨y, rfl, hy0, hy1⟩, C5, M5⟩
    have hy2 := hy1 (by omega)
    clear hy1
    obtain ⟨m1, m2⟩ := Math.mul_bd' (1 + k) y (by omega) hy0 (by omega) (by omega)
    go_wp2_with fail
    refine (below_any C5 _).mono ?_
    rintro e w6 ⟨⟨z, rfl, hz0, hz1⟩, C6, M6⟩
    have hz2 := hz1 (by omega)
    clear hz1
    obtain ⟨m3, m4⟩ := Math.mul_bd' (1 + k) z (by omega) hz0 (by omega) (by omega)
    go_wp2
    go_ret2
    exact ⟨⟨_, _, rfl, ⟨by omega, by omega⟩, ⟨by omega, by omega⟩⟩, C6.below⟩

theorem drawPrime (W0 : World) (a : Option Addr) (n cap : Nat) (hn : n ≤ 1048576) (B : Bytes W0 a n) :
    Calls Try.prog 20 #[.slice a n cap] W0 fun e w' => (∃ x : Int, e = .returned (.int .i64 x) ∧ I64 x) ∧ Below W0.heap.size W0 w' := by
  go_enter Try.func20, Try.ntmps20
  go_wp2_with fail
  refine (new_any W0 a n cap hn B).mono ?_
  rintro e w1 ⟨rfl, C1⟩
  go_wp2_with fail
  refine (below_any C1 _).mono ?_
  rintro e w4 ⟨⟨k, rfl, hk0, hk1⟩, C4, M4⟩
  have hk2 := hk1 (by omega)
  clear hk1
  go_wp2_with fail
  refine (below_any C4 _).mono ?_
  rintro e w5 ⟨⟨y, rfl, hy0, hy1⟩, C5, M5⟩
  have hy2 := hy1 (by omega)
  clear hy1
  have hlt := C5.lt
  go_wp2_with fail
  refine (pickInt_any (C5.alloc _) I64 w5.heap.size 9 9 (by omega) (by omega) (by omega) (rowOf_new _ w5 [k, y, 2147483647, 2146654199, 1, 0, -7, 2147483648, 65537] _ (by intro z hz; unfold I64; simp at hz; omega))).mono ?_
  rintro e w6 ⟨⟨z, rfl, hz⟩, C6, M6⟩
  go_wp2
  go_ret
  exact ⟨⟨_, rfl, hz⟩, C6.below⟩

theorem big_no (a : Option Addr) (n cap : Nat) (w : World) (h : n ≤ 1048576) :
    Calls Try.prog 6 #[.slice a n cap] w fun e w' => e = .returned (.bool false) ∧ w' = w := by
  have hd : decide ((1048576 : Int) < n) = false := by simp; omega
  go_enter Try.func6, Try.ntmps6
  go_wp2
  go_ret
  exact ⟨by simp, rfl⟩

theorem big_yes (a : Option Addr) (n cap : Nat) (w : World) (h : ¬ n ≤ 1048576) :
    Calls Try.prog 6 #[.slice a n cap] w fun e w' => e = .returned (.bool true) ∧ w' = w := by
  have hd : decide ((1048576 : Int) < n) = true := by simp; omega
  go_enter Try.func6, Try.ntmps6
  go_wp2
  go_ret
  exact ⟨by simp, rfl⟩

theorem at_any (a : Option Addr) (n cap i : Nat) (w : World) (hn : n ≤ 1048576) (hi : i ≤ 1000) (B : Bytes w a n) :
    Calls Try.prog 17 #[.slice a n cap, .int .i64 i] w fun e w' => (∃ x : Int, e = .returned (.int .i64 x) ∧ 0 ≤ x ∧ x ≤ 255) ∧ w' = w := by
  by_cases h : i < n
  · obtain ⟨b, o, rfl, hb, hv⟩ : ∃ b o, a = some ⟨b, o, none⟩ ∧ b < w.heap.size ∧ ∀ i, i < n → ∃ v : Int, w.cell? ⟨b, o + i, none⟩ = some (.int .u8 v) ∧ 0 ≤ v ∧ v ≤ 255 := by
      rcases B with h | h
      · omega
      · exact h
    obtain ⟨v, hv0, hv1, hv2⟩ := hv i h
    clear hv B
    go_enter Try.func17, Try.ntmps17
    go_wp2
    go_ret
    exact ⟨⟨_, rfl, hv1, hv2⟩, rfl⟩
  · go_enter Try.func17, Try.ntmps17
    go_wp2
    go_ret
    exact ⟨⟨_, rfl, by omega, by omega⟩, rfl⟩

end Cur
end Go.Proofs.Ytnmbhkecbpmhiaa

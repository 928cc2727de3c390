/- Contracts of the draws of chapter 1: each returns, with numbers of its range, and writes nothing that was there. -/
import Derived.Test.YtllmmelnkkmfoaaDoorCur
namespace Go.Proofs.YtllmmelnkkmfoaaDoor
namespace Cur
open Go.ChangeShapes Go.WideShapes Go.ChangeAt Go.RowKit

theorem word_any {W0 : World} {a : Option Addr} {n cap c : Nat} {w : World} (C : Is W0 a n cap c w) :
    Calls Tryd.prog 50 #[.pointer (some ⟨c, 0, none⟩)] w fun e w' => (∃ x : Int, e = .returned (.int .u32 x) ∧ 0 ≤ x ∧ x ≤ 4294967295) ∧ Is W0 a n cap c w' := by
  go_enter Tryd.func50, Tryd.ntmps50
  go_wp2_with fail
  refine (below_any C _).mono ?_
  rintro e w1 ⟨⟨x, rfl, hx0, hx1⟩, C1, M1⟩
  have hx2 := hx1 (by omega)
  clear hx1
  by_cases h0 : x = 0
  · subst h0
    have hlt := C1.lt
    go_wp2_with fail
    refine (pickInt_any (C1.alloc _) (fun v => 0 ≤ v ∧ v ≤ 4294967295) w1.heap.size 11 11 (by omega) (by omega) (by omega) (rowOf_new _ w1 [0, 1, 2, 31, 32, 255, 256, 2147483647, 2147483648, 4294967295, 4294967294] _ (by intro z hz; simp at hz; omega))).mono ?_
    rintro e w2 ⟨⟨y, rfl, hy0, hy1⟩, C2, M2⟩
    go_wp2
    go_ret
    exact ⟨⟨_, rfl, hy0, hy1⟩, C2⟩
  · by_cases h1 : x = 1
    · subst h1
      go_wp2_with fail
      refine (below_any C1 _).mono ?_
      rintro e w2 ⟨⟨y, rfl, hy0, hy1⟩, C2, M2⟩
      have hy2 := hy1 (by omega)
      clear hy1
      go_wp2
      go_ret
      exact ⟨⟨_, rfl, by omega, by omega⟩, C2⟩
    · have g0 : (x == 0) = false := by rw [beq_eq_false_iff_ne]; omega
      have g1 : (x == 1) = false := by rw [beq_eq_false_iff_ne]; omega
      go_wp2_with fail
      refine (below_any C1 _).mono ?_
      rintro e w2 ⟨⟨y, rfl, hy0, hy1⟩, C2, M2⟩
      have hy2 := hy1 (by omega)
      clear hy1
      go_wp2_with fail
      refine (below_any C2 _).mono ?_
      rintro e w3 ⟨⟨z, rfl, hz0, hz1⟩, C3, M3⟩
      have hz2 := hz1 (by omega)
      clear hz1
      go_wp2
      go_ret
      exact ⟨⟨_, rfl, by omega, by omega⟩, C3⟩

theorem num_any {W0 : World} {a : Option Addr} {n cap c : Nat} {w : World} (C : Is W0 a n cap c w) :
    Calls Tryd.prog 26 #[.pointer (some ⟨c, 0, none⟩)] w fun e w' => (∃ x : Int, e = .returned (.int .i64 x) ∧ -9223372036854775808 ≤ x ∧ x ≤ 9223372036854775807) ∧ Is W0 a n cap c w' := by
  go_enter Tryd.func26, Tryd.ntmps26
  go_wp2_with fail
  refine (below_any C _).mono ?_
  rintro e w1 ⟨⟨x, rfl, hx0, hx1⟩, C1, M1⟩
  have hx2 := hx1 (by omega)
  clear hx1
  by_cases h0 : x = 0
  · subst h0
    have hlt := C1.lt
    go_wp2_with fail
    refine (pickInt_any (C1.alloc _) (fun v => -9223372036854775808 ≤ v ∧ v ≤ 9223372036854775807) w1.heap.size 8 8 (by omega) (by omega) (by omega) (rowOf_new _ w1 [0, 1, -1, 2, 2147483647, 2147483648, 9223372036854775807, -9223372036854775808] _ (by intro z hz; simp at hz; omega))).mono ?_
    rintro e w2 ⟨⟨y, rfl, hy0, hy1⟩, C2, M2⟩
    go_wp2
    go_ret
    exact ⟨⟨_, rfl, hy0, hy1⟩, C2⟩
  · by_cases h1 : x = 1
    · subst h1
      go_wp2_with fail
      refine (below_any C1 _).mono ?_
      rintro e w2 ⟨⟨y, rfl, hy0, hy1⟩, C2, M2⟩
      have hy2 := hy1 (by omega)
      clear hy1
      go_wp2
      go_ret
      exact ⟨⟨_, rfl, by omega, by omega⟩, C2⟩
    · have g0 : (x == 0) = false := by rw [beq_eq_false_iff_ne]; omega
      have g1 : (x == 1) = false := by rw [beq_eq_false_iff_ne]; omega
      go_wp2_with fail
      refine (word_any C1).mono ?_
      rintro e w2 ⟨⟨y, rfl, hy0, hy1⟩, C2⟩
      go_wp2
      go_ret
      exact ⟨⟨_, rfl, by omega, by omega⟩, C2⟩

/-- A number of the kind int. -/
def I64 (x : Int) : Prop := -9223372036854775808 ≤ x ∧ x ≤ 9223372036854775807

theorem big_no (a : Option Addr) (n cap : Nat) (w : World) (h : n ≤ 1048576) :
    Calls Tryd.prog 5 #[.slice a n cap] w fun e w' => e = .returned (.bool false) ∧ w' = w := by
  have hd : decide ((1048576 : Int) < n) = false := by simp; omega
  go_enter Tryd.func5, Tryd.ntmps5
  go_wp2
  go_ret
  exact ⟨by simp, rfl⟩

theorem big_yes (a : Option Addr) (n cap : Nat) (w : World) (h : ¬ n ≤ 1048576) :
    Calls Tryd.prog 5 #[.slice a n cap] w fun e w' => e = .returned (.bool true) ∧ w' = w := by
  have hd : decide ((1048576 : Int) < n) = true := by simp; omega
  go_enter Tryd.func5, Tryd.ntmps5
  go_wp2
  go_ret
  exact ⟨by simp, rfl⟩

end Cur
end Go.Proofs.YtllmmelnkkmfoaaDoor

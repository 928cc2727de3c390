/- Contracts of the index of a field and of DarkAt, of the program and of its model. -/
import Derived.Test.YtkhibgicejcmlamSqOk
import Derived.Deep.RegionHeld3
namespace Go.Proofs.Ytkhibgicejcmlam
namespace Sq
open Go.ChangeShapes Go.WideShapes Go.ChangeAt Go.RowKit
open Pk (Drawn)
set_option linter.unusedSimpArgs false
set_option linter.unusedVariables false

/-- The index of a field of the square with 2 h + 1 rows. -/
def idx (h : Nat) (x y : Int) : Nat := (y + h).toNat * (2 * h + 1) + (x + h).toNat

theorem idx_lt {h : Nat} {x y : Int} (hx1 : -(h : Int) ≤ x) (hx2 : x ≤ h) (hy1 : -(h : Int) ≤ y) (hy2 : y ≤ h) : idx h x y < (2 * h + 1) * (2 * h + 1) := by
  unfold idx
  have : (y + h).toNat * (2 * h + 1) ≤ 2 * h * (2 * h + 1) := Nat.mul_le_mul_right _ (by omega)
  rw [Nat.add_mul]
  omega

theorem idx_is {h : Nat} {x y : Int} (hx1 : -(h : Int) ≤ x) (hy1 : -(h : Int) ≤ y) : (idx h x y : Int) = (y + h) * (2 * h + 1) + x + h := by
  unfold idx
  rw [Int.natCast_add, Int.natCast_mul, Int.toNat_of_nonneg (by omega), Int.toNat_of_nonneg (by omega)]
  have : ((2 * h + 1 : Nat) : Int) = 2 * (h : Int) + 1 := by omega
  rw [this]
  omega

theorem row_bd {h : Nat} {y n : Int} (h1 : h ≤ 30) (hn : n = 2 * (h : Int) + 1) (hy1 : -(h : Int) ≤ y) (hy2 : y ≤ h) : 0 ≤ (y + h) * n ∧ (y + h) * n ≤ 3660 := by
  have e : (y + h) * n = (((y + h).toNat * (2 * h + 1) : Nat) : Int) := by
    rw [Int.natCast_mul, Int.toNat_of_nonneg (by omega), hn]
    have : ((2 * h + 1 : Nat) : Int) = 2 * (h : Int) + 1 := by omega
    rw [this]
  have : (y + h).toNat * (2 * h + 1) ≤ 60 * 61 := Nat.mul_le_mul (by omega) (by omega)
  omega

theorem half_is (h : Nat) : Int.tdiv (2 * (h : Int) + 1) 2 = h := by
  rw [Int.tdiv_eq_ediv_of_nonneg (by omega)]
  omega

theorem place_val (h : Nat) (x y : Int) (w : World) (h1 : h ≤ 30) (hx1 : -(h : Int) ≤ x) (hx2 : x ≤ h) (hy1 : -(h : Int) ≤ y) (hy2 : y ≤ h) :
    Calls Try.prog 28 #[.int .i64 (2 * (h : Int) + 1), .int .i64 x, .int .i64 y] w fun e w' => e = .returned (.int .i64 (idx h x y)) ∧ w' = w := by
  have HI : Hid (_) := idx_is hx1 hy1
  obtain ⟨b1, b2⟩ := row_bd h1 rfl hy1 hy2
  have ht := half_is h
  generalize (idx h x y : Int) = r at *
  generalize 2 * (h : Int) + 1 = n at *
  go_enter Try.func28, Try.ntmps28
  go_wp2
  go_ret
  exact ⟨by rw [HI.out]; rfl, rfl⟩

theorem index_val (h : Nat) (s : ByteArray) (a b : Nat) (x y : Int) (w : World) (ha : floatToIntVal .f64 a .i64 = some x) (hb : floatToIntVal .f64 b .i64 = some y) (h1 : h ≤ 30) (hx1 : -(h : Int) ≤ x) (hx2 : x ≤ h) (hy1 : -(h : Int) ≤ y) (hy2 : y ≤ h) :
    Calls Try.prog 32 #[sqV (2 * (h : Int) + 1) s, .complex .f64 a b] w fun e w' => e = .returned (.int .i64 (idx h x y)) ∧ Below w.heap.size w w' := by
  have HI : Hid (_) := idx_is hx1 hy1
  obtain ⟨b1, b2⟩ := row_bd h1 rfl hy1 hy2
  have ht := half_is h
  have HX : Hid (∀ w, _) := fun w => x_val a b x w ha
  have HY : Hid (∀ w, _) := fun w => y_val a b y w hb
  unfold sqV
  generalize (idx h x y : Int) = r at *
  generalize 2 * (h : Int) + 1 = n at *
  have N := Pk.new_below w (.cells #[.int .i64 n, .string s] 25)
  have m0 := Pk.heap_new w (.cells #[.int .i64 n, .string s] 25)
  clear ha hb
  go_enter Try.func32, Try.ntmps32
  go_wp2
  generalize w.alloc (.cells #[.int .i64 n, .string s] 25) = w1 at *
  have c0 : w1.cell? ⟨w.heap.size, 0, none⟩ = some (.int .i64 n) := Pk.cell_at m0 0
  clear m0
  go_quiet ((first | (go_at_call 61; exact Calls.quiet_of_same (HX.out _)) | (go_at_call 60; exact Calls.quiet_of_same (HY.out _))))
  go_wp2
  go_ret
  exact ⟨by rw [HI.out]; rfl, Pk.join_below N ((Pk.Drawn.below _ ⟨nq, rfl⟩))⟩

theorem ok_form {n : Int} {s : ByteArray} (h : okQ n s = true) : ∃ h : Nat, 4 ≤ h ∧ h ≤ 30 ∧ n = 2 * (h : Int) + 1 ∧ s.size = (2 * h + 1) * (2 * h + 1) ∧ signsFrom s 0 = true := by
  unfold okQ headOk at h
  rw [Bool.and_eq_true] at h
  obtain ⟨h1, h2⟩ := h
  have h3 := of_decide_eq_true h1
  obtain ⟨a, b, c, d⟩ := h3
  refine ⟨(n / 2).toNat, by omega, by omega, by omega, ?_, h2⟩
  have e : n = ((2 * (n / 2).toNat + 1 : Nat) : Int) := by omega
  generalize (n / 2).toNat = k at *
  subst e
  have : (s.size : Int) = (((2 * k + 1) * (2 * k + 1) : Nat) : Int) := by rw [d, Int.natCast_mul]
  omega

/-- What DarkAt answers. -/
def dkV (n : Int) (s : ByteArray) (x y : Int) : Int :=
  if okQ n s = true ∧ inB x (-(Int.tdiv n 2)) (Int.tdiv n 2) = true ∧ inB y (-(Int.tdiv n 2)) (Int.tdiv n 2) = true then ((s.data.toList.getD (idx (Int.tdiv n 2).toNat x y) 0).toNat : Int) - 48 else -1

theorem sign_at {s : ByteArray} (hs : signsFrom s 0 = true) (i : Nat) (h : i < s.size) : s[i].toNat = 48 ∨ s[i].toNat = 49 := by
  unfold signsFrom at hs
  have h1 : i < s.data.toList.length := by rw [Array.length_toList]; exact h
  have := List.all_eq_true.1 hs (s.data.toList[i]'h1) (by rw [List.drop_zero]; exact List.getElem_mem h1)
  exact of_decide_eq_true this

theorem getD_at (s : ByteArray) (i : Nat) (h : i < s.size) : s.data.toList.getD i 0 = s[i] := by
  have h1 : i < s.data.toList.length := by rw [Array.length_toList]; exact h
  rw [List.getD_eq_getElem?_getD, List.getElem?_eq_getElem h1]
  rfl

theorem dk_no {n : Int} {s : ByteArray} {x y : Int} (h : okQ n s = false ∨ inB x (-(Int.tdiv n 2)) (Int.tdiv n 2) = false ∨ inB y (-(Int.tdiv n 2)) (Int.tdiv n 2) = false) : dkV n s x y = -1 := by
  unfold dkV
  rw [if_neg]
  rintro ⟨a, b, c⟩
  rw [a, b, c] at h
  simp at h

theorem dk_yes {h : Nat} {s : ByteArray} {x y : Int} (hok : okQ (2 * (h : Int) + 1) s = true) (hx : inB x (-(h : Int)) h = true) (hy : inB y (-(h : Int)) h = true) (hi : idx h x y < s.size) : dkV (2 * (h : Int) + 1) s x y = (s[idx h x y].toNat : Int) - 48 := by
  unfold dkV
  rw [half_is h, if_pos ⟨hok, hx, hy⟩, Int.toNat_natCast, getD_at s _ hi]

theorem wf_half {n : Int} (hw : (Lit.int .i64 n).wf = true) : -4611686018427387904 ≤ Int.tdiv n 2 ∧ Int.tdiv n 2 ≤ 4611686018427387904 := by
  simp only [Lit.wf, Bool.and_eq_true, decide_eq_true_eq] at hw
  have k1 : IntKind.i64.min = -9223372036854775808 := by decide
  have k2 : IntKind.i64.max = 9223372036854775807 := by decide
  rw [k1, k2] at hw
  obtain ⟨hw1, hw2⟩ := hw
  rcases Int.le_total 0 n with h | h
  · rw [Int.tdiv_eq_ediv_of_nonneg h]; omega
  · obtain ⟨m, rfl⟩ : ∃ m, n = -m := ⟨-n, by omega⟩
    rw [Int.neg_tdiv, Int.tdiv_eq_ediv_of_nonneg (by omega)]
    omega

end Sq
end Go.Proofs.Ytkhibgicejcmlam

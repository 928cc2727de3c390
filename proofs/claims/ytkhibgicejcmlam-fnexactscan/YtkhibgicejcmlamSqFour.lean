/- Four quarters leave a square as it was; a field stands where it should behind one: the mathematics. And squares compared. -/
import Derived.Test.YtkhibgicejcmlamSqHeart2
import Derived.Test.YtkhibgicejcmlamSqDark
import Derived.Test.YtkhibgicejcmlamSqTurnBy
import Derived.Laws.StructEq
namespace Go.Proofs.Ytkhibgicejcmlam
namespace Sq
open Go.ChangeShapes Go.WideShapes Go.ChangeAt Go.RowKit
set_option linter.unusedSimpArgs false
set_option linter.unusedVariables false

theorem tb_turn {h : Nat} {s : ByteArray} {j : Nat} (hj : j < (2 * h + 1) * (2 * h + 1)) : tb (turnS h s) j = tb s (idx h (cY h j) (-(cX h j))) := by
  unfold turnS
  rw [strT_at _ _ _ hj]
  rfl

theorem idxLt {h : Nat} {x y : Int} (hx1 : -(h : Int) ≤ x) (hx2 : x ≤ h) (hy1 : -(h : Int) ≤ y) (hy2 : y ≤ h) : idx h x y < (2 * h + 1) * (2 * h + 1) := by
  obtain ⟨a, ha⟩ : ∃ a : Nat, x + h = a := ⟨(x + h).toNat, by omega⟩
  obtain ⟨b, hb⟩ : ∃ b : Nat, y + h = b := ⟨(y + h).toNat, by omega⟩
  have e1 := cX_idx (y := y) hx1 hx2
  have e2 := cY_idx hx1 hx2 hy1
  apply Nat.lt_of_not_le
  intro hle
  unfold cY at e2
  have : (2 * h + 1) ≤ idx h x y / (2 * h + 1) := (Nat.le_div_iff_mul_le (by omega)).2 hle
  omega

theorem tbAt {h : Nat} {s : ByteArray} {x y : Int} (hx1 : -(h : Int) ≤ x) (hx2 : x ≤ h) (hy1 : -(h : Int) ≤ y) (hy2 : y ≤ h) : tb (turnS h s) (idx h x y) = tb s (idx h y (-x)) := by
  rw [tb_turn (idxLt hx1 hx2 hy1 hy2), cX_idx hx1 hx2, cY_idx hx1 hx2 hy1]

theorem turnS_size (h : Nat) (s : ByteArray) : (turnS h s).size = (2 * h + 1) * (2 * h + 1) := by
  unfold turnS
  rw [strT_size]

theorem four {h : Nat} {s : ByteArray} (hz : s.size = (2 * h + 1) * (2 * h + 1)) : turnS h (turnS h (turnS h (turnS h s))) = s := by
  apply text_ext
  · rw [turnS_size, hz]
  · intro j hj
    rw [turnS_size] at hj
    obtain ⟨⟨x1, x2⟩, y1, y2⟩ := c_in hj
    rw [tb_turn hj, tbAt y1 y2 (by omega) (by omega), tbAt (by omega) (by omega) (by omega) (by omega), tbAt (by omega) (by omega) (by omega) (by omega)]
    rw [Int.neg_neg, Int.neg_neg, idx_of]

theorem four_n {n : Int} {s : ByteArray} (hok : okQ n s = true) : turnN n s 4 = s := by
  obtain ⟨h, h4, h1, rfl, hz, hg⟩ := ok_form hok
  have e1 := turnV_ok hok
  have o1 := ok_turn hok
  have e2 := turnV_ok o1
  have o2 := ok_turn o1
  have e3 := turnV_ok o2
  have o3 := ok_turn o2
  have e4 := turnV_ok o3
  show turnV _ (turnV _ (turnV _ (turnV _ s))) = s
  rw [e4, e3, e2, e1]
  exact four hz

theorem turnN_no {n : Int} {s : ByteArray} (hok : okQ n s = false) (k : Nat) : turnN n s k = s := by
  induction k with
  | zero => rfl
  | succ k ih => rw [turnN, ih, turnV_no hok]

theorem turnN_add (n : Int) (s : ByteArray) (a b : Nat) : turnN n (turnN n s a) b = turnN n s (a + b) := by
  induction b with
  | zero => rfl
  | succ b ih =>
    show turnV n (turnN n (turnN n s a) b) = turnV n (turnN n s (a + b))
    rw [ih]

/-- A turned quarter more, and the remainder by four. -/
theorem turn_more {n : Int} {s : ByteArray} (hok : okQ n s = true) (k : Nat) (hk : k < 4) : turnN n (turnN n s k) 1 = turnN n s ((((k : Int) + 1) % 4).toNat) := by
  rw [turnN_add]
  by_cases e : k = 3
  · subst e
    rw [show (((3 : Nat) : Int) + 1) % 4 = 0 from rfl]
    exact four_n hok
  · rw [show (((k : Int) + 1) % 4).toNat = k + 1 by omega]

theorem turn_three {n : Int} {s : ByteArray} (hok : okQ n s = true) : turnN n (turnV n s) 3 = s := by
  have := turnN_add n s 1 3
  rw [show turnN n s 1 = turnV n s from rfl] at this
  rw [this]
  exact four_n hok

/-- A field behind a quarter. -/
theorem dark_turn {n : Int} {s : ByteArray} (hok : okQ n s = true) {x y : Int} (hx1 : -4 ≤ x) (hx2 : x ≤ 4) (hy1 : -4 ≤ y) (hy2 : y ≤ 4) : dkV n (turnV n s) (-y) x = dkV n s x y := by
  obtain ⟨h, h4, h1, rfl, hz, hg⟩ := ok_form hok
  have ht : Int.tdiv (2 * (h : Int) + 1) 2 = h := half_is h
  have hin : ∀ z : Int, -4 ≤ z → z ≤ 4 → inB z (-(Int.tdiv (2 * (h : Int) + 1) 2)) (Int.tdiv (2 * (h : Int) + 1) 2) = true := by
    intro z h1 h2
    rw [ht]
    unfold inB
    simp
    omega
  unfold dkV
  rw [if_pos ⟨ok_turn hok, hin _ (by omega) (by omega), hin _ hx1 hx2⟩, if_pos ⟨hok, hin _ hx1 hx2, hin _ hy1 hy2⟩, turnV_ok hok, ht, Int.toNat_natCast]
  have := tbAt (h := h) (s := s) (x := -y) (y := x) (by omega) (by omega) (by omega) (by omega)
  rw [Int.neg_neg] at this
  unfold tb at this
  rw [this]

theorem dark_far {n : Int} {s : ByteArray} : dkV n s 99 0 = -1 := by
  unfold dkV
  by_cases hok : okQ n s = true
  · obtain ⟨h, h4, h1, rfl, hz, hg⟩ := ok_form hok
    rw [if_neg]
    intro hh
    have := hh.2.1
    rw [half_is h] at this
    unfold inB at this
    simp at this
    omega
  · rw [if_neg (fun h => hok h.1)]

theorem eql_same (n : Int) (s : ByteArray) (w : World) : (binOp .eql 25 (.agg #[.int .i64 n, .string s]) (.agg #[.int .i64 n, .string s])).run Try.prog w = .ok (.bool true) w := by
  rw [run_eql_struct, run_equalIn_struct w 9999 25 _ _ (by kernel_rfl) (by kernel_rfl)]
  have hf : (Try.prog.fieldsOf 25).toList.map (fun f => (f.name == "_", f.type, f.offset)) = [(false, 3, 0), (false, 9, 1)] := by kernel_rfl
  generalize (Try.prog.fieldsOf 25).toList = l at hf
  obtain ⟨f0, l, rfl, e0, hf⟩ := List.map_eq_cons_iff.1 hf
  obtain ⟨f1, l, rfl, e1, hf⟩ := List.map_eq_cons_iff.1 hf
  obtain rfl := List.map_eq_nil_iff.1 hf
  simp only [Prod.mk.injEq, beq_eq_false_iff_ne] at e0 e1
  obtain ⟨n0, t0, o0⟩ := e0
  obtain ⟨n1, t1, o1⟩ := e1
  simp only [Op.eqFields, if_pos n0, if_pos n1, t0, t1, o0, o1]
  simp [part, go_sem, Try.underlying3, Try.underlying9, run_equalIn_int, Result.andThen]

end Sq
end Go.Proofs.Ytkhibgicejcmlam

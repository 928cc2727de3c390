/- A want's line, and what can be read off it: the mathematics. -/
import Derived.Test.YtdfejmaekdgcdasDoorGtShape
import Derived.Test.YtdfejmaekdgcdasDoorWnCut
import Derived.Test.YtdfejmaekdgcdasDoorWnRow
namespace Go.Proofs.YtdfejmaekdgcdasDoor
namespace Wn
open Go.ChangeShapes Go.WideShapes Go.ChangeAt Go.RowKit
open Tk (Nums)
open Num (decS)
open Gt (bl bl_ext bl_append bl_length dec_bl dec_no dec_read dec_val' Rd vl rv rv_yes)
set_option linter.unusedSimpArgs false
set_option linter.unusedVariables false

/-- The line of a right want. -/
def Good (s : ByteArray) (t : Wh) (nm : ByteArray) (ls : List Rd.Ri) : Prop := wlB t nm ls = true ∧ dl (wz t ls) ++ nm = s

/-- What ReadWant answers. -/
def GetEnd (s : ByteArray) (base : Nat) (e : Ending) (w : World) : Prop :=
  (∃ t nm ls a cap, Good s t nm ls ∧ e = .returned (.tuple #[wnV t nm a ls.length cap, .bool true]) ∧ w.ownsRow base 41 4 (.slice a ls.length cap) ls.length (qcells ls)) ∨
  ((∀ t nm ls, ¬ Good s t nm ls) ∧ e = .returned (.tuple #[wnV ⟨0, 0, 0, 0, 0⟩ ⟨#[]⟩ none 0 0, .bool false]))

theorem wl_parts {t : Wh} {nm : ByteArray} {ls : List Rd.Ri} (h : wlB t nm ls = true) : Nums (wz t ls) ∧ ls.length ≤ 6 ∧ Tk.nameB nm = true := by
  unfold wlB at h
  simp only [Bool.and_eq_true, decide_eq_true_eq] at h
  exact ⟨okZ_nums h.1.1, h.1.2, h.2⟩

theorem wlS_yes {t : Wh} {nm : ByteArray} {ls : List Rd.Ri} (h : wlB t nm ls = true) : wlS t nm ls = dl (wz t ls) ++ nm := if_pos h
theorem wlS_no {t : Wh} {nm : ByteArray} {ls : List Rd.Ri} (h : wlB t nm ls = false) : wlS t nm ls = ⟨#[]⟩ := if_neg (by rw [h]; simp)

theorem index_one (c : UInt8) : ∀ (a r : List UInt8), c ∉ a → Lib.index (a ++ c :: r) [c] = (a.length : Int)
  | [], r, _ => by
    rw [List.nil_append, Lib.index, if_pos (by simp [List.isPrefixOf])]
    rfl
  | x :: a, r, h => by
    rw [List.mem_cons, not_or] at h
    rw [List.cons_append, Lib.index, if_neg (by simp [List.isPrefixOf]; exact h.1), index_one c a r h.2]
    rw [if_neg (by simp), List.length_cons]
    omega

theorem cut_at (a r : List UInt8) (h : (32 : UInt8) ∉ a) : Lib.cut (a ++ 32 :: r) [32] = (a, r, true) := by
  unfold Lib.cut
  rw [index_one 32 a r h, if_pos (by omega), Int.toNat_natCast]
  have e : ([32] : List UInt8).length = 1 := rfl
  rw [e, List.take_left, List.drop_append, List.drop_eq_nil_of_le (by omega)]
  simp

theorem c_at {s : ByteArray} {a r : List UInt8} (hs : bl s = a ++ 32 :: r) (h : (32 : UInt8) ∉ a) : bl (cA s) = a ∧ bl (cR s) = r := by
  unfold cA cR
  rw [show s.data.toList = a ++ 32 :: r from hs, cut_at a r h]
  exact ⟨rfl, rfl⟩

/-- Numbers, each with a blank behind it. -/
def flat (zs : List Int) : List UInt8 := zs.flatMap fun z => bl (decS z) ++ [32]

theorem flat_cons (z : Int) (zs : List Int) : flat (z :: zs) = bl (decS z) ++ 32 :: flat zs := by simp [flat]

theorem dl_bl (zs : List Int) : bl (dl zs) = flat zs := by
  have h : ∀ k, k ≤ zs.length → bl (dl (zs.take k)) = flat (zs.take k) := by
    intro k
    induction k with
    | zero => intro _; rfl
    | succ k ih =>
      intro hk
      rw [dl_take zs k (by omega), bl_append, bl_append, ih (by omega), List.take_succ_eq_append_getElem (by omega)]
      unfold flat
      rw [List.flatMap_append]
      congr 1
      rw [List.flatMap_cons, List.flatMap_nil, List.append_nil]
  have := h zs.length (Nat.le_refl _)
  rwa [List.take_length] at this

theorem dec_blank {z : Int} (h : 0 ≤ z) : (32 : UInt8) ∉ bl (decS z) := by
  rw [dec_bl z h]
  exact dec_no _ 32 (by decide)

theorem dec_rd {z : Int} (h : 0 ≤ z ∧ z ≤ 999999999) : Rd (decS z) ∧ (vl (decS z) : Int) = z := by
  have e := dec_bl z h.1
  have e2 : (decS z).data.toList = Lib.decDigits z.toNat := e
  constructor
  · show Math.ReadOk (decS z).data.toList
    rw [e2]
    exact dec_read _ (by omega)
  · show ((Math.val (decS z).data.toList : Nat) : Int) = z
    rw [e2, dec_val']
    omega

theorem begins {s : ByteArray} {zs : List Int} {t : List UInt8} (hz : Nums zs) (hs : bl s = flat zs ++ t) : ∀ k, k ≤ zs.length → bl (cZ s k) = flat (zs.drop k) ++ t
  | 0, _ => hs
  | k + 1, hk => by
    have ih := begins hz hs k (by omega)
    rw [List.drop_eq_getElem_cons (show k < zs.length by omega), flat_cons, List.append_assoc] at ih
    have hk0 := hz zs[k] (List.getElem_mem (by omega))
    exact (c_at ih (dec_blank hk0.1)).2

theorem begins_n {s : ByteArray} {zs : List Int} {t : List UInt8} (hz : Nums zs) (hs : bl s = flat zs ++ t) (j : Nat) (hj : j < zs.length) : (nW s j : Int) = zs[j] := by
  have ih := begins hz hs j (by omega)
  rw [List.drop_eq_getElem_cons hj, flat_cons, List.append_assoc] at ih
  have hk0 := hz zs[j] (List.getElem_mem hj)
  have e : cA (cZ s j) = decS zs[j] := bl_ext (c_at ih (dec_blank hk0.1)).1
  unfold nW
  rw [e, rv_yes (dec_rd hk0).1]
  exact (dec_rd hk0).2

theorem gQ_lines : ∀ (rs : List Rd.Ri) (r : ByteArray) (t : List UInt8), Nums (rs.flatMap rz) → bl r = flat (rs.flatMap rz) ++ t → gQ rs.length r = rs ∧ bl (gE rs.length r) = t
  | [], r, t, _, h => ⟨rfl, h⟩
  | q :: rs, r, t, hn, h => by
    have e0 : (q :: rs).flatMap rz = q.tr :: q.dy :: q.fr :: q.to :: rs.flatMap rz := rfl
    rw [e0] at hn h
    have l4 : 4 ≤ (q.tr :: q.dy :: q.fr :: q.to :: rs.flatMap rz).length := by simp
    have n0 := begins_n hn h 0 (by omega)
    have n1 := begins_n hn h 1 (by omega)
    have n2 := begins_n hn h 2 (by omega)
    have n3 := begins_n hn h 3 (by omega)
    have h4 := begins hn h 4 l4
    have hn4 : Nums (rs.flatMap rz) := fun z hz => hn z (by simp only [List.mem_cons]; exact Or.inr (Or.inr (Or.inr (Or.inr hz))))
    obtain ⟨i1, i2⟩ := gQ_lines rs (cZ r 4) t hn4 h4
    rw [List.length_cons]
    refine ⟨?_, i2⟩
    rw [gQ, i1]
    congr 1
    unfold rI
    rw [n0, n1, n2, n3]
    rfl

theorem guess_good {s : ByteArray} {t : Wh} {nm : ByteArray} {ls : List Rd.Ri} (h : Good s t nm ls) : gwH s = t ∧ gwN s = nm ∧ gwR s = ls := by
  obtain ⟨hn, hl, -⟩ := wl_parts h.1
  have hs : bl s = flat (wz t ls) ++ bl nm := by rw [← h.2, bl_append, dl_bl]
  have hlen := wz_length t ls
  have n0 := begins_n hn hs 0 (by omega)
  have n1 := begins_n hn hs 1 (by omega)
  have n2 := begins_n hn hs 2 (by omega)
  have n3 := begins_n hn hs 3 (by omega)
  have n4 := begins_n hn hs 4 (by omega)
  have n5 := begins_n hn hs 5 (by omega)
  have h6 := begins hn hs 6 (by omega)
  have e5 : nW s 5 = ls.length := by
    have : (nW s 5 : Int) = (ls.length : Int) := n5
    omega
  have hn6 : Nums (ls.flatMap rz) := fun z hz => hn z (by unfold wz; exact List.mem_append_right _ hz)
  obtain ⟨q1, q2⟩ := gQ_lines ls (cZ s 6) (bl nm) hn6 h6
  have em : min (nW s 5) 6 = ls.length := by omega
  refine ⟨?_, ?_, ?_⟩
  · unfold gwH
    rw [n0, n1, n2, n3, n4]
    rfl
  · apply bl_ext
    unfold gwN
    rw [em]
    exact q2
  · unfold gwR
    rw [em]
    exact q1

theorem good_one {s : ByteArray} {t t' : Wh} {nm nm' : ByteArray} {ls ls' : List Rd.Ri} (h : Good s t nm ls) (h' : Good s t' nm' ls') : t = t' ∧ nm = nm' ∧ ls = ls' := by
  obtain ⟨a1, a2, a3⟩ := guess_good h
  obtain ⟨b1, b2, b3⟩ := guess_good h'
  exact ⟨a1.symm.trans b1, a2.symm.trans b2, a3.symm.trans b3⟩

end Wn
end Go.Proofs.YtdfejmaekdgcdasDoor

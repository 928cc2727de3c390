/- What Scan answers: the mathematics. -/
import Derived.Test.YtkhibgicejcmlamSqScanI
import Derived.Test.YtkhibgicejcmlamSqPaintQ
import Derived.Test.YtkhibgicejcmlamSqNeq
namespace Go.Proofs.Ytkhibgicejcmlam
namespace Sq
open Go.ChangeShapes Go.WideShapes Go.ChangeAt Go.RowKit
set_option linter.unusedSimpArgs false
set_option linter.unusedVariables false

/-- The signs behind the heart, along the way. -/
def restS (h : Nat) (s : ByteArray) : ByteArray := (strT s.size (alongF h s)).extract 25 s.size

theorem restS_size {h : Nat} {s : ByteArray} (hz : 25 ≤ s.size) : (restS h s).size = s.size - 25 := by
  unfold restS
  rw [ByteArray.size_extract, strT_size]
  omega

/-- The bytes that they say. -/
def bodyR (h : Nat) (s : ByteArray) : ByteArray := strT ((restS h s).size / 8) (fun j => UInt8.ofNat (bv (sbit (restS h s)) j 8))

def told (B : ByteArray) : Nat := (tb B 0).toNat * 256 + (tb B 1).toNat

/-- What Scan tells of the bytes B and of the square that stands upright. -/
def scanT (n : Int) (s B : ByteArray) : ByteArray := if told B ≤ 400 ∧ told B + 6 ≤ B.size ∧ B.extract (2 + told B) (2 + told B + 4) = Num.wordS (Math.crc (B.extract 2 (2 + told B)).data.toList) ∧ pnV (B.extract 2 (2 + told B)) = n ∧ ptV (B.extract 2 (2 + told B)) = s then B.extract 2 (2 + told B) else ⟨#[]⟩

def scanC (n : Int) (s B : ByteArray) : Int :=
  if ¬ (told B ≤ 400 ∧ told B + 6 ≤ B.size) then 2
  else if ¬ (B.extract (2 + told B) (2 + told B + 4) = Num.wordS (Math.crc (B.extract 2 (2 + told B)).data.toList)) then 3
  else if ¬ (pnV (B.extract 2 (2 + told B)) = n ∧ ptV (B.extract 2 (2 + told B)) = s) then 4 else 0

theorem neq_any (n m : Int) (s t : ByteArray) (w : World) : (binOp .neq 25 (.agg #[.int .i64 n, .string s]) (.agg #[.int .i64 m, .string t])).run Try.prog w = .ok (.bool (!(decide (n = m) && decide (s = t)))) w := by
  rw [run_neq_struct, run_equalIn_struct w 9999 25 _ _ (by kernel_rfl) (by kernel_rfl)]
  have hf : (Try.prog.fieldsOf 25).toList.map (fun f => (f.name == "_", f.type, f.offset)) = [(false, 3, 0), (false, 9, 1)] := by kernel_rfl
  generalize (Try.prog.fieldsOf 25).toList = l at hf
  obtain ⟨f0, l, rfl, e0, hf⟩ := List.map_eq_cons_iff.1 hf
  obtain ⟨f1, l, rfl, e1, hf⟩ := List.map_eq_cons_iff.1 hf
  obtain rfl := List.map_eq_nil_iff.1 hf
  simp only [Prod.mk.injEq, beq_eq_false_iff_ne] at e0 e1
  obtain ⟨n0, t0, o0⟩ := e0
  obtain ⟨n1, t1, o1⟩ := e1
  simp only [Op.eqFields, if_pos n0, if_pos n1, t0, t1, o0, o1]
  by_cases h1 : n = m
  · subst h1
    by_cases h2 : s = t
    · subst h2
      simp [part, go_sem, Try.underlying3, Try.underlying9, run_equalIn_int, Result.andThen]
    · have h3 : ¬ s.toList = t.toList := fun e => h2 (Go.WideShapes.bytes_inj (by rw [← ByteArray.toList_eq, ← ByteArray.toList_eq]; exact e))
      simp [part, go_sem, Try.underlying3, Try.underlying9, run_equalIn_int, Result.andThen, h2, h3]
  · simp [part, go_sem, Try.underlying3, Try.underlying9, run_equalIn_int, Result.andThen, h1]

theorem hv_bd (p : Nat → Bool) : ∀ f m : Nat, hv p f m = -1 ∨ (m : Int) ≤ hv p f m ∧ hv p f m < (m : Int) + f
  | 0, _ => .inl rfl
  | f + 1, m => by
    rw [hv]
    split
    · exact .inr ⟨by omega, by omega⟩
    · rcases hv_bd p f (m + 1) with h | h
      · exact .inl h
      · exact .inr ⟨by omega, by omega⟩

theorem heart_bd {n : Int} {s : ByteArray} : heartV n s = -1 ∨ 0 ≤ heartV n s ∧ heartV n s ≤ 3 := by
  unfold heartV
  split
  · rcases hv_bd (hAt (Int.tdiv n 2).toNat n s) 4 0 with h | h
    · exact .inl h
    · exact .inr ⟨by omega, by omega⟩
  · exact .inl rfl

theorem tb_extract {s : ByteArray} {a b j : Nat} (h : a + j < b) (hb : b ≤ s.size) : tb (s.extract a b) j = tb s (a + j) := by
  have hj : j < (s.extract a b).size := by rw [ByteArray.size_extract]; omega
  have ha : a + j < s.size := by omega
  unfold tb
  rw [getD_at _ _ hj, getD_at _ _ ha, ByteArray.getElem_extract]

theorem rest_sign {h : Nat} {n : Int} {s : ByteArray} (h1 : h ≤ 30) (hz : s.size = (2 * h + 1) * (2 * h + 1)) (h25 : 25 ≤ s.size) (hg : signsFrom s 0 = true) (i : Nat) (hi : i < (restS h s).size) : (tb (restS h s) i).toNat = 48 ∨ (tb (restS h s) i).toNat = 49 := by
  rw [restS_size h25] at hi
  have e : tb (restS h s) i = alongF h s (25 + i) := by
    unfold restS
    rw [tb_extract (by omega) (by rw [strT_size]; omega), strT_at _ _ _ (by omega)]
  rw [e]
  unfold alongF
  obtain ⟨a1, a2, a3, a4⟩ := dist_in (way_dist (25 + i) h (by omega))
  have hx : idx h (wx (25 + i)) (wy (25 + i)) < s.size := by rw [hz]; exact idx_lt a1 a2 a3 a4
  rw [show tb s (idx h (wx (25 + i)) (wy (25 + i))) = s[idx h (wx (25 + i)) (wy (25 + i))] from getD_at s _ hx]
  exact sign_at hg _ hx

end Sq
end Go.Proofs.Ytkhibgicejcmlam

/- Records that are put behind a log are read; of a torn one those ahead are left: the mathematics. -/
import Derived.Test.YtdfejmaekdgcdaeLgRecs
namespace Go.Proofs.Ytdfejmaekdgcdae
namespace Lg10
open Go.ChangeShapes Go.WideShapes Go.ChangeAt Go.RowKit
set_option linter.unusedSimpArgs false
set_option linter.unusedVariables false

/-- The texts xs stand from place k up to place e. -/
def Run (l : ByteArray) : Nat → List ByteArray → Nat → Prop
  | k, [], e => k = e
  | k, x :: xs, e => recB l k = true ∧ txS l k = x ∧ Run l (k + 8 + txN l k) xs e

theorem recB_parts {l : ByteArray} {k : Nat} (h : recB l k = true) : k + 8 ≤ l.size ∧ txN l k ≤ 3000 ∧ k + 8 + txN l k ≤ l.size ∧ l.extract (k + 4) (k + 8) = Num.wordS (Math.crc (txS l k).data.toList) := by
  unfold recB at h
  simp only [Bool.and_eq_true, decide_eq_true_eq] at h
  exact ⟨h.1.1.1, h.1.1.2, h.1.2, h.2⟩

theorem recB_mk {l : ByteArray} {k : Nat} (h1 : k + 8 ≤ l.size) (h2 : txN l k ≤ 3000) (h3 : k + 8 + txN l k ≤ l.size) (h4 : l.extract (k + 4) (k + 8) = Num.wordS (Math.crc (txS l k).data.toList)) : recB l k = true := by
  unfold recB
  rw [decide_eq_true h1, decide_eq_true h2, decide_eq_true h3, decide_eq_true h4]
  rfl

theorem rcs_run (l : ByteArray) : ∀ n k, Run l k (rcs l n k) (rce l n k)
  | 0, k => rfl
  | n + 1, k => by
    rw [rcs, rce]
    by_cases h : recB l k = true
    · rw [if_pos h, if_pos h]
      exact ⟨h, rfl, rcs_run l n _⟩
    · rw [if_neg h, if_neg h]
      rfl

theorem rcs_stop (l : ByteArray) : ∀ n k, l.size ≤ n + k → recB l (rce l n k) = false
  | 0, k, h => by
    cases hb : recB l (rce l 0 k)
    · rfl
    · have := (recB_parts hb).1
      have e : rce l 0 k = k := rfl
      omega
  | n + 1, k, h => by
    rw [rce]
    by_cases hb : recB l k = true
    · rw [if_pos hb]
      have := (recB_parts hb).1
      exact rcs_stop l n _ (by omega)
    · rw [if_neg hb]
      exact Bool.eq_false_iff.2 hb

theorem run_rcs (l : ByteArray) : ∀ (xs : List ByteArray) (n k e : Nat), Run l k xs e → recB l e = false → l.size ≤ n + k → rcs l n k = xs ∧ rce l n k = e
  | [], n, k, e, h, hs, hn => by
    obtain rfl : k = e := h
    exact rcs_no hs
  | x :: xs, n, k, e, h, hs, hn => by
    obtain ⟨h1, h2, h3⟩ := h
    have h8 := (recB_parts h1).1
    obtain ⟨n', rfl⟩ : ∃ n', n = n' + 1 := ⟨n - 1, by omega⟩
    obtain ⟨e1, e2⟩ := run_rcs l xs n' _ e h3 hs (by omega)
    rw [rcs, rce, if_pos h1, if_pos h1, e1, e2, h2]
    exact ⟨rfl, rfl⟩

theorem run_le (l : ByteArray) : ∀ (xs : List ByteArray) (k e : Nat), Run l k xs e → k ≤ e ∧ (k ≤ l.size → e ≤ l.size)
  | [], k, e, h => by
    obtain rfl : k = e := h
    exact ⟨Nat.le_refl _, id⟩
  | x :: xs, k, e, h => by
    obtain ⟨h1, h2, h3⟩ := h
    have h8 := recB_parts h1
    obtain ⟨a, b⟩ := run_le l xs _ e h3
    exact ⟨by omega, fun _ => b h8.2.2.1⟩

theorem run_append (l : ByteArray) : ∀ (xs ys : List ByteArray) (k e f : Nat), Run l k xs e → Run l e ys f → Run l k (xs ++ ys) f
  | [], ys, k, e, f, h, h2 => by
    obtain rfl : k = e := h
    exact h2
  | x :: xs, ys, k, e, f, h, h2 => ⟨h.1, h.2.1, run_append l xs ys _ e f h.2.2 h2⟩

/-- Two logs have the same first bytes. -/
structure Agree (l l' : ByteArray) (m : Nat) : Prop where
  left : m ≤ l.size
  right : m ≤ l'.size
  part : ∀ a b, b ≤ m → l.extract a b = l'.extract a b

theorem rec_agree {l l' : ByteArray} {m k : Nat} (A : Agree l l' m) (h : recB l k = true) (hm : k + 8 + txN l k ≤ m) : recB l' k = true ∧ txN l' k = txN l k ∧ txS l' k = txS l k := by
  obtain ⟨h1, h2, h3, h4⟩ := recB_parts h
  have e1 : txN l' k = txN l k := by unfold txN; rw [A.part k (k + 4) (by omega)]
  have e2 : txS l' k = txS l k := by unfold txS; rw [e1, A.part (k + 8) (k + 8 + txN l k) hm]
  have h5 := A.right
  refine ⟨recB_mk (by omega) (by omega) (by omega) ?_, e1, e2⟩
  rw [e2, ← A.part (k + 4) (k + 8) (by omega)]
  exact h4

theorem run_agree {l l' : ByteArray} {m : Nat} (A : Agree l l' m) : ∀ (xs : List ByteArray) (k e : Nat), Run l k xs e → e ≤ m → Run l' k xs e
  | [], k, e, h, _ => h
  | x :: xs, k, e, h, he => by
    obtain ⟨h1, h2, h3⟩ := h
    have h4 := (run_le l xs _ e h3).1
    obtain ⟨r1, r2, r3⟩ := rec_agree A h1 (by omega)
    refine ⟨r1, by rw [r3]; exact h2, ?_⟩
    rw [r2]
    exact run_agree A xs _ e h3 he

theorem ext_ext (l : ByteArray) (a b m : Nat) (h : b ≤ m) : (l.extract 0 m).extract a b = l.extract a b := by
  rw [ByteArray.extract_extract]
  congr 1
  · omega
  · omega

theorem agree_pre {l : ByteArray} {m : Nat} (h : m ≤ l.size) : Agree l (l.extract 0 m) m := ⟨h, by rw [ByteArray.size_extract]; omega, fun a b hb => (ext_ext l a b m hb).symm⟩

/-- What Records tells is a run up to where it stops. -/
theorem recs_run {l : ByteArray} (h : l.size ≤ 200000) : Run l 0 (rsL l) (rsE l) ∧ recB l (rsE l) = false ∧ rsE l ≤ l.size := by
  have e1 : rsL l = rcs l l.size 0 := if_pos h
  have e2 : rsE l = rce l l.size 0 := if_pos h
  rw [e1, e2]
  have r := rcs_run l l.size 0
  exact ⟨r, rcs_stop l l.size 0 (by omega), (run_le l _ _ _ r).2 (by omega)⟩

theorem run_length (l : ByteArray) : ∀ (xs : List ByteArray) (k e : Nat), Run l k xs e → xs.length + k ≤ e
  | [], k, e, h => by
    obtain rfl : k = e := h
    simp
  | x :: xs, k, e, h => by
    have := run_length l xs _ e h.2.2
    rw [List.length_cons]
    omega

theorem recs_length {l : ByteArray} (h : l.size ≤ 200000) : (rsL l).length ≤ l.size := by
  obtain ⟨r, -, he⟩ := recs_run h
  have := run_length l _ _ _ r
  omega

theorem recs_of {l : ByteArray} {xs : List ByteArray} {e : Nat} (h : l.size ≤ 200000) (r : Run l 0 xs e) (hs : recB l e = false) : rsL l = xs ∧ rsE l = e := by
  have e1 : rsL l = rcs l l.size 0 := if_pos h
  have e2 : rsE l = rce l l.size 0 := if_pos h
  rw [e1, e2]
  exact run_rcs l xs l.size 0 e r hs (by omega)

end Lg10
end Go.Proofs.Ytdfejmaekdgcdae

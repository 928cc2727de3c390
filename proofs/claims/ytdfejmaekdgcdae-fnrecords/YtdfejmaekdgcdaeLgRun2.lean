/- A record behind a whole log is read, a torn one and a spoilt one are not: the mathematics. -/
import Derived.Test.YtdfejmaekdgcdaeLgRun
namespace Go.Proofs.Ytdfejmaekdgcdae
namespace Lg10
open Go.ChangeShapes Go.WideShapes Go.ChangeAt Go.RowKit
set_option linter.unusedSimpArgs false
set_option linter.unusedVariables false

theorem Agree.symm {l l' : ByteArray} {m : Nat} (A : Agree l l' m) : Agree l' l m := ⟨A.right, A.left, fun a b h => (A.part a b h).symm⟩

/-- The whole records of a log. -/
def pre (l : ByteArray) : ByteArray := l.extract 0 (rsE l)

theorem pre_size {l : ByteArray} (h : l.size ≤ 200000) : (pre l).size = rsE l := by
  have := (recs_run h).2.2
  unfold pre
  rw [ByteArray.size_extract]
  omega

theorem pre_run {l : ByteArray} (h : l.size ≤ 200000) : Run (pre l) 0 (rsL l) (rsE l) := by
  obtain ⟨r, -, he⟩ := recs_run h
  exact run_agree (agree_pre he) _ _ _ r (Nat.le_refl _)

theorem agree_app (p q : ByteArray) : Agree p (p ++ q) p.size := by
  have A := agree_pre (l := p ++ q) (m := p.size) (by rw [ByteArray.size_append]; omega)
  rw [ByteArray.extract_append_eq_left rfl] at A
  exact A.symm

theorem word_part (n : Nat) (h : n < 4294967296) : Num.part (Num.wordS n) 4 = n := by
  have e0 : (Num.wordS n).data.getD 0 0 = UInt8.ofNat (n / 16777216) := rfl
  have e1 : (Num.wordS n).data.getD 1 0 = UInt8.ofNat (n / 65536) := rfl
  have e2 : (Num.wordS n).data.getD 2 0 = UInt8.ofNat (n / 256) := rfl
  have e3 : (Num.wordS n).data.getD 3 0 = UInt8.ofNat n := rfl
  simp only [Num.part]
  rw [e0, e1, e2, e3, UInt8.toNat_ofNat', UInt8.toNat_ofNat', UInt8.toNat_ofNat', UInt8.toNat_ofNat']
  omega

theorem rec_len (s : ByteArray) : (recS s).extract 0 4 = Num.wordS s.size := by
  unfold recS
  rw [ByteArray.append_assoc]
  exact ByteArray.extract_append_eq_left (by rw [Num.wordS_size])

theorem rec_sum (s : ByteArray) : (recS s).extract 4 8 = Num.wordS (Math.crc s.data.toList) := by
  unfold recS
  rw [ByteArray.append_assoc]
  have h := ByteArray.extract_append_size_add (a := Num.wordS s.size) (b := Num.wordS (Math.crc s.data.toList) ++ s) (i := 0) (j := 4)
  rw [Num.wordS_size] at h
  rw [h]
  exact ByteArray.extract_append_eq_left (by rw [Num.wordS_size])

theorem rec_text (s : ByteArray) : (recS s).extract 8 (8 + s.size) = s := by
  unfold recS
  refine ByteArray.extract_append_eq_right ?_ ?_
  · rw [ByteArray.size_append, Num.wordS_size, Num.wordS_size]
  · rw [ByteArray.size_append, Num.wordS_size, Num.wordS_size]

/-- A record that stands at a place. -/
theorem rec_at {l : ByteArray} {k : Nat} {s : ByteArray} (hs : s.size ≤ 3000) (hk : k + 8 + s.size ≤ l.size) (h : ∀ a b, b ≤ 8 + s.size → l.extract (k + a) (k + b) = (recS s).extract a b) : recB l k = true ∧ txN l k = s.size ∧ txS l k = s := by
  have e1 : txN l k = s.size := by
    unfold txN
    have := h 0 4 (by omega)
    rw [Nat.add_zero] at this
    rw [this, rec_len, word_part _ (by omega)]
  have e2 : txS l k = s := by
    unfold txS
    rw [e1]
    have := h 8 (8 + s.size) (Nat.le_refl _)
    rw [Nat.add_assoc, this, rec_text]
  refine ⟨recB_mk (by omega) (by omega) (by omega) ?_, e1, e2⟩
  rw [e2, h 4 8 (by omega), rec_sum]

/-- The log with a record more. -/
def more (l s : ByteArray) : ByteArray := pre l ++ recS s

theorem more_size {l s : ByteArray} (h : l.size ≤ 200000) : (more l s).size = rsE l + 8 + s.size := by
  unfold more
  rw [ByteArray.size_append, pre_size h, recS_size]
  omega

theorem more_at {l s : ByteArray} (h : l.size ≤ 200000) (a b : Nat) : (more l s).extract (rsE l + a) (rsE l + b) = (recS s).extract a b := by
  unfold more
  rw [← pre_size h]
  exact ByteArray.extract_append_size_add

theorem more_agree {l s : ByteArray} (h : l.size ≤ 200000) : Agree (pre l) (more l s) (rsE l) := by
  have := agree_app (pre l) (recS s)
  rw [pre_size h] at this
  exact this

theorem more_run {l s : ByteArray} (h : l.size ≤ 200000) : Run (more l s) 0 (rsL l) (rsE l) := run_agree (more_agree h) _ _ _ (pre_run h) (Nat.le_refl _)

theorem past_no {l : ByteArray} {k : Nat} (h : l.size < k + 8) : recB l k = false := by
  unfold recB
  rw [decide_eq_false (by omega)]
  rfl

theorem more_recs {l s : ByteArray} (h : l.size ≤ 200000) (hs : s.size ≤ 3000) (hm : (more l s).size ≤ 200000) : rsL (more l s) = rsL l ++ [s] ∧ rsE (more l s) = (more l s).size := by
  have hz := more_size (s := s) h
  obtain ⟨r1, r2, r3⟩ := rec_at (l := more l s) (k := rsE l) hs (by omega) (fun a b _ => more_at h a b)
  refine recs_of hm ?_ (past_no (by omega))
  refine run_append _ _ _ _ _ _ (more_run h) ⟨r1, r3, ?_⟩
  show _ = _
  rw [r2]
  omega

theorem torn_recs {l s : ByteArray} (h : l.size ≤ 200000) (hs : s.size ≤ 3000) (hm : (more l s).size ≤ 200000) : rsL ((more l s).extract 0 ((more l s).size - 1)) = rsL l ∧ rsE ((more l s).extract 0 ((more l s).size - 1)) = rsE l := by
  have hz := more_size (s := s) h
  have A := agree_pre (l := more l s) (m := (more l s).size - 1) (by omega)
  have hsz : ((more l s).extract 0 ((more l s).size - 1)).size = (more l s).size - 1 := by rw [ByteArray.size_extract]; omega
  refine recs_of (by omega) (run_agree A _ _ _ (more_run h) (by omega)) ?_
  by_cases h8 : (more l s).size - 1 < rsE l + 8
  · exact past_no (by omega)
  · cases hb : recB ((more l s).extract 0 ((more l s).size - 1)) (rsE l)
    · rfl
    · obtain ⟨h1, h2, h3, h4⟩ := recB_parts hb
      have e1 : txN ((more l s).extract 0 ((more l s).size - 1)) (rsE l) = s.size := by
        unfold txN
        rw [← A.part _ _ (by omega)]
        have := more_at (s := s) h 0 4
        rw [Nat.add_zero] at this
        rw [this, rec_len, word_part _ (by omega)]
      omega

end Lg10
end Go.Proofs.Ytdfejmaekdgcdae

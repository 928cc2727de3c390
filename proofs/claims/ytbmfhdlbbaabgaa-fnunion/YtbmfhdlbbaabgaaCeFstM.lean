/- The first control of each device and number, told in their order: mathematics. -/
import Derived.Test.YtbmfhdlbbaabgaaCeMapK
import Derived.Test.YtbmfhdlbbaabgaaCeDelS
import Derived.Test.YtbmfhdlbbaabgaaCeSortF
namespace Go.Proofs.Ytbmfhdlbbaabgaa
namespace Hn
open Go.ChangeShapes Go.WideShapes Go.ChangeAt Go.RowKit Go.Joins
open Pk (new_below join_below cell_at heap_new frozen_at lt_of kept heap_old Drawn info_of Room own_form own_below)
set_option linter.unusedSimpArgs false
set_option linter.unusedVariables false

def kc (x : Ct) : KyK := ⟨x.dv, x.no⟩

def AscC (l : List Ct) : Prop := l.Pairwise fun a b => ltC a b = true

theorem kc_eq {x y : Ct} : kc x = kc y ↔ x.dv = y.dv ∧ x.no = y.no := by simp [kc]

theorem kc_of {x y : Ct} (h1 : ltC x y = false) (h2 : ltC y x = false) : kc x = kc y := by
  rw [lt_not] at h1 h2
  rw [kc_eq]
  omega

theorem kc_ne {x y : Ct} (h : ltC x y = true) : kc x ≠ kc y := by
  rw [lt_iff] at h
  intro e
  rw [kc_eq] at e
  omega

theorem kc_lt {x y a b : Ct} (h1 : kc x = kc a) (h2 : kc y = kc b) (h : ltC x y = true) : ltC a b = true := by
  rw [kc_eq] at h1 h2
  rw [lt_iff] at *
  omega

theorem ltC_trans {x y z : Ct} (h1 : ltC x y = true) (h2 : ltC y z = true) : ltC x z = true := by
  rw [lt_iff] at *
  omega

theorem ascC_of : ∀ {l : List Ct}, ascB l = true → AscC l
  | [], _ => List.Pairwise.nil
  | [a], _ => by unfold AscC; simp
  | a :: b :: t, h => by
    simp only [ascB, Bool.and_eq_true] at h
    have ih := ascC_of h.2
    refine List.Pairwise.cons ?_ ih
    intro y hy
    rcases List.mem_cons.1 hy with rfl | hy
    · exact h.1
    · exact ltC_trans h.1 ((List.pairwise_cons.1 ih).1 y hy)

theorem insC_nil (x : Ct) : insC x [] = [x] := rfl

theorem insC_lt {x a : Ct} {t : List Ct} (h : ltC a x = true) : insC x (a :: t) = a :: insC x t := by
  unfold insC
  rw [show posC x (a :: t) = posC x t + 1 from if_pos h]
  rfl

theorem insC_ge {x a : Ct} {t : List Ct} (h : ltC a x = false) : insC x (a :: t) = x :: a :: t := by
  unfold insC
  rw [show posC x (a :: t) = 0 from if_neg (by rw [h]; decide)]
  rfl

theorem hasC_nil (x : Ct) : hasC x [] = false := rfl

theorem hasC_lt {x a : Ct} {t : List Ct} (h : ltC a x = true) : hasC x (a :: t) = hasC x t := by
  unfold hasC
  rw [show posC x (a :: t) = posC x t + 1 from if_pos h]
  rfl

theorem hasC_ge {x a : Ct} {t : List Ct} (h : ltC a x = false) : hasC x (a :: t) = !ltC x a := by
  unfold hasC
  rw [show posC x (a :: t) = 0 from if_neg (by rw [h]; decide)]
  rfl

theorem insC_mem {x y : Ct} : ∀ {l : List Ct}, y ∈ insC x l ↔ y = x ∨ y ∈ l
  | [] => by rw [insC_nil]; simp
  | a :: t => by
    cases h : ltC a x
    · rw [insC_ge h]; simp
    · rw [insC_lt h, List.mem_cons, insC_mem (l := t), List.mem_cons]
      constructor
      · rintro (h | h | h)
        · exact Or.inr (Or.inl h)
        · exact Or.inl h
        · exact Or.inr (Or.inr h)
      · rintro (h | h | h)
        · exact Or.inr (Or.inl h)
        · exact Or.inl h
        · exact Or.inr (Or.inr h)

theorem ascC_ins {x : Ct} : ∀ {l : List Ct}, AscC l → hasC x l = false → AscC (insC x l)
  | [], _, _ => by rw [insC_nil]; unfold AscC; simp
  | a :: t, hA, hh => by
    obtain ⟨h1, h2⟩ := List.pairwise_cons.1 hA
    cases h : ltC a x
    · rw [hasC_ge h] at hh
      rw [insC_ge h]
      have hxa : ltC x a = true := by simpa using hh
      refine List.Pairwise.cons ?_ hA
      intro y hy
      rcases List.mem_cons.1 hy with rfl | hy
      · exact hxa
      · exact ltC_trans hxa (h1 y hy)
    · rw [hasC_lt h] at hh
      rw [insC_lt h]
      refine List.Pairwise.cons ?_ (ascC_ins h2 hh)
      intro y hy
      rcases insC_mem.1 hy with rfl | hy
      · exact h
      · exact h1 y hy

theorem has_no {x : Ct} : ∀ {l : List Ct}, AscC l → hasC x l = false → ∀ y ∈ l, kc y ≠ kc x
  | [], _, _ => by simp
  | a :: t, hA, hh => by
    obtain ⟨h1, h2⟩ := List.pairwise_cons.1 hA
    intro y hy
    cases h : ltC a x
    · rw [hasC_ge h] at hh
      have hxa : ltC x a = true := by simpa using hh
      rcases List.mem_cons.1 hy with rfl | hy
      · exact (kc_ne hxa).symm
      · exact (kc_ne (ltC_trans hxa (h1 y hy))).symm
    · rw [hasC_lt h] at hh
      rcases List.mem_cons.1 hy with rfl | hy
      · exact kc_ne h
      · exact has_no h2 hh y hy

theorem has_yes {x : Ct} : ∀ {l : List Ct}, hasC x l = true → ∃ y ∈ l, kc y = kc x
  | [], hh => by rw [hasC_nil] at hh; cases hh
  | a :: t, hh => by
    cases h : ltC a x
    · rw [hasC_ge h] at hh
      exact ⟨a, by simp, kc_of h (by simpa using hh)⟩
    · rw [hasC_lt h] at hh
      obtain ⟨y, hy, e⟩ := has_yes hh
      exact ⟨y, by simp [hy], e⟩

theorem ascC_put {l : List Ct} (x : Ct) (h : AscC l) : AscC (putC l x) := by
  unfold putC
  split
  · exact h
  · rename_i hn
    refine ascC_ins h ?_
    cases hh : hasC x l
    · rfl
    · exact absurd (Or.inl hh) hn

theorem put_mem {l : List Ct} {x y : Ct} (h : y ∈ putC l x) : y = x ∨ y ∈ l := by
  unfold putC at h
  split at h
  · exact Or.inr h
  · exact insC_mem.1 h

theorem ascC_fold : ∀ (m : List Ct) {l : List Ct}, AscC l → AscC (m.foldl putC l)
  | [], _, h => h
  | x :: m, _, h => ascC_fold m (ascC_put x h)

theorem fold_mem : ∀ (m : List Ct) {l : List Ct} {y : Ct}, y ∈ m.foldl putC l → y ∈ l ∨ y ∈ m
  | [], _, _, h => Or.inl h
  | x :: m, l, y, h => by
    rcases fold_mem m h with h | h
    · rcases put_mem h with h | h
      · exact Or.inr (by simp [h])
      · exact Or.inl h
    · exact Or.inr (by simp [h])

/-- One that is greater than all goes behind them. -/
theorem put_last {x : Ct} : ∀ {l : List Ct}, (∀ y ∈ l, ltC y x = true) → hasC x l = false ∧ insC x l = l ++ [x]
  | [], _ => ⟨hasC_nil x, insC_nil x⟩
  | a :: t, h => by
    have h1 : ltC a x = true := h a (by simp)
    obtain ⟨e1, e2⟩ := put_last (l := t) (fun y hy => h y (by simp [hy]))
    exact ⟨(hasC_lt h1).trans e1, by rw [insC_lt h1, e2]; rfl⟩

theorem fold_asc : ∀ (m : List Ct) {l : List Ct}, AscC (l ++ m) → l.length + m.length ≤ 600 → m.foldl putC l = l ++ m
  | [], l, _, _ => by simp
  | x :: m, l, h, hl => by
    have h1 : ∀ y ∈ l, ltC y x = true := fun y hy => (List.pairwise_append.1 h).2.2 y hy x (by simp)
    obtain ⟨e1, e2⟩ := put_last h1
    have e3 : putC l x = l ++ [x] := by
      unfold putC
      rw [if_neg, e2]
      rw [e1]
      simp at hl
      simp
      omega
    show m.foldl putC (putC l x) = _
    rw [e3, fold_asc m (l := l ++ [x]) (by rw [List.append_assoc]; exact h) (by simp at hl ⊢; omega)]
    simp

/-- What is kept of two lists together: what the first has, and what of the second comes in. -/
theorem del_join {l m : List Ct} (h : ascB l = true) (hl : l.length ≤ 600) : delF [] (l ++ m) (l ++ m).length = delF l m m.length := by
  unfold delF
  rw [List.take_length, List.take_length, List.foldl_append, fold_asc l (l := []) (by simpa using ascC_of h) (by simpa using hl)]
  rfl

def lookC (S : List Ct) (q : KyK) : Option Ct := S.find? fun y => decide (kc y = q)

theorem look_some {S : List Ct} {q : KyK} {y : Ct} (h : lookC S q = some y) : y ∈ S ∧ kc y = q := ⟨List.mem_of_find?_eq_some h, by simpa using List.find?_some h⟩

theorem look_none {S : List Ct} {q : KyK} : lookC S q = none ↔ ∀ y ∈ S, kc y ≠ q := by
  unfold lookC
  rw [List.find?_eq_none]
  simp

theorem ascC_one : ∀ {S : List Ct}, AscC S → ∀ {y z : Ct}, y ∈ S → z ∈ S → kc y = kc z → y = z
  | [], _, _, _, hy, _, _ => by simp at hy
  | a :: t, hA, y, z, hy, hz, e => by
    obtain ⟨h1, h2⟩ := List.pairwise_cons.1 hA
    rcases List.mem_cons.1 hy with ey | hy2 <;> rcases List.mem_cons.1 hz with ez | hz2
    · rw [ey, ez]
    · exact absurd e (kc_ne (by rw [ey]; exact h1 z hz2))
    · exact absurd e.symm (kc_ne (by rw [ez]; exact h1 y hy2))
    · exact ascC_one h2 hy2 hz2 e

theorem look_is {S : List Ct} (hA : AscC S) {y : Ct} {q : KyK} (h : y ∈ S) (e : kc y = q) : lookC S q = some y := by
  cases hl : lookC S q with
  | none => exact absurd e (look_none.1 hl y h)
  | some z =>
    obtain ⟨hz, ez⟩ := look_some hl
    rw [ascC_one hA h hz (e.trans ez.symm)]

theorem look_ins {S : List Ct} {x : Ct} (hA : AscC S) (hh : hasC x S = false) : lookC (insC x S) = putK (lookC S) (kc x) x := by
  funext q
  unfold putK
  split
  · rename_i e
    exact look_is (ascC_ins hA hh) (insC_mem.2 (Or.inl rfl)) e.symm
  · rename_i e
    cases hl : lookC S q with
    | none =>
      rw [look_none] at hl ⊢
      intro y hy
      rcases insC_mem.1 hy with rfl | hy
      · exact fun h => e h.symm
      · exact hl y hy
    | some z =>
      obtain ⟨hz, ez⟩ := look_some hl
      exact look_is (ascC_ins hA hh) (insC_mem.2 (Or.inr hz)) ez

/-- One step of the gathering. -/
theorem fst_there {S : List Ct} {x y : Ct} (hA : AscC S) (h : lookC S (kc x) = some y) : putC S x = S := by
  have hh : hasC x S = true := by
    cases hh : hasC x S
    · obtain ⟨hy, e⟩ := look_some h
      exact absurd e (has_no hA hh y hy)
    · rfl
  unfold putC
  rw [if_pos (Or.inl hh)]

theorem fst_full {S : List Ct} {x : Ct} (h : 600 ≤ S.length) : putC S x = S := by
  unfold putC
  rw [if_pos (Or.inr h)]

theorem fst_new {S : List Ct} {x : Ct} (hA : AscC S) (h : lookC S (kc x) = none) (hl : S.length < 600) : lookC (putC S x) = putK (lookC S) (kc x) x ∧ (putC S x).length = S.length + 1 := by
  have hh : hasC x S = false := by
    cases hh : hasC x S
    · rfl
    · obtain ⟨y, hy, e⟩ := has_yes hh
      exact absurd e (look_none.1 h y hy)
  unfold putC
  rw [if_neg (by rw [hh]; simp; omega)]
  exact ⟨look_ins hA hh, insC_len x S⟩

/-- What stands behind the j-th is still to be told. -/
def Rest (S D : List Ct) (k j : Nat) : Prop := ∀ y ∈ S.drop j, ∃ i, k ≤ i ∧ ∃ h : i < D.length, kc D[i] = kc y

theorem rest_start {S D : List Ct} (h : ∀ y ∈ S, y ∈ D) : Rest S D 0 0 := by
  intro y hy
  obtain ⟨i, hi, e⟩ := List.mem_iff_getElem.1 (h y hy)
  exact ⟨i, Nat.zero_le _, hi, by rw [e]⟩

theorem rest_miss {S D : List Ct} {k j : Nat} (hk : k < D.length) (R : Rest S D k j) (h : lookC (S.drop j) (kc D[k]) = none) : Rest S D (k + 1) j := by
  intro y hy
  obtain ⟨i, hi, hl, e⟩ := R y hy
  refine ⟨i, ?_, hl, e⟩
  by_cases hki : k = i
  · subst hki
    exact absurd e.symm (look_none.1 h y hy)
  · omega

theorem rest_hit {S D : List Ct} {k j : Nat} {y : Ct} (hA : AscC S) (hS : Srt D) (hk : k < D.length) (R : Rest S D k j) (h : lookC (S.drop j) (kc D[k]) = some y) :
    ∃ hj : j < S.length, S[j] = y ∧ Rest S D (k + 1) (j + 1) ∧ lookC (S.drop (j + 1)) = delK (lookC (S.drop j)) (kc D[k]) := by
  obtain ⟨hy, ey⟩ := look_some h
  have hj : j < S.length := by
    apply Classical.byContradiction
    intro hn
    rw [List.drop_eq_nil_of_le (by omega)] at hy
    simp at hy
  have hd : S.drop j = S[j] :: S.drop (j + 1) := List.drop_eq_getElem_cons hj
  have hA2 : AscC (S.drop j) := List.Pairwise.sublist (List.drop_sublist _ _) hA
  rw [hd] at hA2
  obtain ⟨h1, h2⟩ := List.pairwise_cons.1 hA2
  have hyj : S[j] = y := by
    rw [hd] at hy
    rcases List.mem_cons.1 hy with e | hy
    · exact e.symm
    · exfalso
      obtain ⟨i, hi, hl, e⟩ := R S[j] (by rw [hd]; exact List.mem_cons_self)
      have h3 : ltC D[i] D[k] = true := kc_lt e.symm ey (h1 y hy)
      by_cases hki : k = i
      · subst hki
        exact kc_ne h3 rfl
      · have := hS k i hk hl (by omega)
        rw [this] at h3
        cases h3
  have ek : kc S[j] = kc D[k] := by rw [hyj]; exact ey
  refine ⟨hj, hyj, ?_, ?_⟩
  · intro z hz
    obtain ⟨i, hi, hl, e⟩ := R z (by rw [hd]; exact List.mem_cons_of_mem _ hz)
    refine ⟨i, ?_, hl, e⟩
    by_cases hki : k = i
    · subst hki
      exact absurd (ek.trans e) (kc_ne (h1 z hz))
    · omega
  · funext q
    unfold delK
    split
    · rename_i e
      rw [look_none]
      intro z hz hq
      exact kc_ne (h1 z hz) (ek.trans (e.symm.trans hq.symm))
    · rename_i e
      rw [hd]
      unfold lookC
      rw [List.find?_cons_of_neg]
      simp
      exact fun h => e (h.symm.trans ek)

theorem rest_end {S D : List Ct} {j : Nat} (R : Rest S D D.length j) : S.take j = S := by
  refine List.take_of_length_le ?_
  apply Classical.byContradiction
  intro hn
  obtain ⟨i, hi, hl, -⟩ := R S[j] (by rw [List.drop_eq_getElem_cons (by omega)]; exact List.mem_cons_self)
  omega

end Hn
end Go.Proofs.Ytbmfhdlbbaabgaa

/- A control put in its place of ascending ones. -/
import Derived.Test.YtbmfhdlbbaabgaaCeOk
import Derived.Test.YtbmfhdlbbaabgaaCeRevS
namespace Go.Proofs.Ytbmfhdlbbaabgaa
namespace Hn
open Go.ChangeShapes Go.WideShapes Go.ChangeAt Go.RowKit Go.Joins
open Pk (new_below join_below cell_at heap_new frozen_at lt_of kept heap_old Drawn info_of Room own_form own_below)
set_option linter.unusedSimpArgs false
set_option linter.unusedVariables false

/-- How many stand ahead of it. -/
def posC (x : Ct) : List Ct → Nat
  | [] => 0
  | a :: t => if ltC a x = true then posC x t + 1 else 0

def insC (x : Ct) (l : List Ct) : List Ct := l.take (posC x l) ++ x :: l.drop (posC x l)

/-- Whether one stands at its place. -/
def hasC (x : Ct) (l : List Ct) : Bool := match l[posC x l]? with
  | none => false
  | some y => !ltC x y

def putC (l : List Ct) (x : Ct) : List Ct := if hasC x l = true ∨ 600 ≤ l.length then l else insC x l

theorem posC_le (x : Ct) (l : List Ct) : posC x l ≤ l.length := by
  induction l with
  | nil => simp [posC]
  | cons a t ih =>
    unfold posC
    split
    · simp; omega
    · simp

theorem posC_step {x : Ct} {l : List Ct} {k : Nat} (hk : k < l.length) (h : ltC l[k] x = true) : posC x (l.drop k) = posC x (l.drop (k + 1)) + 1 := by
  rw [List.drop_eq_getElem_cons hk]
  exact if_pos h

theorem posC_stop {x : Ct} {l : List Ct} {k : Nat} (hk : k < l.length) (h : ltC l[k] x = false) : posC x (l.drop k) = 0 := by
  rw [List.drop_eq_getElem_cons hk]
  exact if_neg (by rw [h]; decide)

theorem posC_end (x : Ct) (l : List Ct) : posC x (l.drop l.length) = 0 := by simp [posC]

theorem hasC_at {x : Ct} {l : List Ct} {k : Nat} (hp : posC x l = k) (hk : k < l.length) : hasC x l = !ltC x l[k] := by
  unfold hasC
  rw [hp, List.getElem?_eq_getElem hk]

theorem hasC_end {x : Ct} {l : List Ct} (hp : posC x l = l.length) : hasC x l = false := by
  unfold hasC
  rw [hp, List.getElem?_eq_none (Nat.le_refl _)]

theorem insC_len (x : Ct) (l : List Ct) : (insC x l).length = l.length + 1 := by
  unfold insC
  have := posC_le x l
  simp
  omega

theorem putC_len (l : List Ct) (x : Ct) : (putC l x).length ≤ l.length + 1 := by
  unfold putC
  split
  · omega
  · rw [insC_len]; omega

theorem putC_cap {l : List Ct} (x : Ct) (h : l.length ≤ 600) : (putC l x).length ≤ 600 := by
  unfold putC
  split
  · exact h
  · rename_i hn
    rw [insC_len]
    omega

theorem ctls_take {w : World} {b u : Nat} {l : List Ct} (k : Nat) (I : Controls w (some ⟨b, u, none⟩) l) : ∀ j v, (ccells (l.take k))[j]? = some v → w.cell? (Addr.add ⟨b, u, none⟩ j) = some v := by
  intro j v hv
  refine ctls_get I j v ?_
  have hj := (List.getElem?_eq_some_iff.1 hv).1
  rw [ccells_length, List.length_take] at hj
  have e : ccells l = ccells (l.take k) ++ ccells (l.drop k) := by rw [ccells_append, List.take_append_drop]
  rw [e, List.getElem?_append_left (by rw [ccells_length, List.length_take]; exact hj)]
  exact hv

theorem ctls_drop {w : World} {b u : Nat} {l : List Ct} (k : Nat) (hk : k ≤ l.length) (I : Controls w (some ⟨b, u, none⟩) l) : ∀ j v, (ccells (l.drop k))[j]? = some v → w.cell? (Addr.add ⟨b, u + k * 6, none⟩ j) = some v := by
  intro j v hv
  have e : ccells l = ccells (l.take k) ++ ccells (l.drop k) := by rw [ccells_append, List.take_append_drop]
  have hl : (ccells (l.take k)).length = k * 6 := by rw [ccells_length, List.length_take]; congr 1; omega
  have := ctls_get I (k * 6 + j) v (by
    rw [e, List.getElem?_append_right (by omega), hl, show k * 6 + j - k * 6 = j by omega]
    exact hv)
  rw [add_plain] at this ⊢
  rw [Nat.add_assoc]
  exact this

theorem ctls_rest {w : World} {b u u2 n k : Nat} {l : List Ct} (hn : l.length ≤ n) (hk : k ≤ l.length) (h : ¬ n = k → u2 = u + k * 6) (I : Controls w (some ⟨b, u, none⟩) l) : ∀ j v, (ccells (l.drop k))[j]? = some v → w.cell? (Addr.add ⟨b, u2, none⟩ j) = some v := by
  by_cases e : n = k
  · intro j v hv
    rw [List.drop_eq_nil_of_le (by omega)] at hv
    simp [ccells] at hv
  · rw [h e]
    exact ctls_drop k hk I

theorem six_of {w : World} {b : Nat} {p : Ct} {t : TypeId} {f : Nat × Nat} (h : w.heap[b]? = some (.cells #[.int .i64 p.dv, .int .i64 p.no, .int .i64 p.tk, .int .i64 p.tr, .int .i64 p.dy, .int .i64 p.sa] t f)) : ∀ j u, (cc1 p)[j]? = some u → w.cell? (Addr.add ⟨b, 0, none⟩ j) = some u := by
  intro j u hu
  rw [add_plain, Nat.zero_add, cell_at h, ← hu]
  match j with
  | 0 => rfl
  | 1 => rfl
  | 2 => rfl
  | 3 => rfl
  | 4 => rfl
  | 5 => rfl
  | j + 6 => simp [cc1]

theorem cc1_ones (p : Ct) : ∀ u ∈ cc1 p, u.oneCell' = true := by
  intro u hu
  simp only [cc1, List.mem_cons, List.not_mem_nil, or_false] at hu
  rcases hu with rfl | rfl | rfl | rfl | rfl | rfl <;> rfl

end Hn
end Go.Proofs.Ytbmfhdlbbaabgaa

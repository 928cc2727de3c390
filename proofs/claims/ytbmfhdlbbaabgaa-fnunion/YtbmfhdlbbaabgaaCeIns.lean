/- A number put in its place of an ascending list. -/
import Derived.Test.YtbmfhdlbbaabgaaCeCp
import Derived.Test.YtbmfhdlbbaabgaaCeOk
namespace Go.Proofs.Ytbmfhdlbbaabgaa
namespace Hn
open Go.ChangeShapes Go.WideShapes Go.ChangeAt Go.RowKit Go.Joins
open Pk (new_below join_below cell_at heap_new frozen_at lt_of kept heap_old Drawn info_of Room own_form own_below)
set_option linter.unusedSimpArgs false
set_option linter.unusedVariables false

/-- The list with x ahead of the first that is not below it. -/
def insI (x : Int) : List Int → List Int
  | [] => [x]
  | a :: t => if a < x then a :: insI x t else x :: a :: t

/-- How many stand ahead of it. -/
def posI (x : Int) : List Int → Nat
  | [] => 0
  | a :: t => if a < x then posI x t + 1 else 0

theorem pos_le (x : Int) (l : List Int) : posI x l ≤ l.length := by
  induction l with
  | nil => simp [posI]
  | cons a t ih =>
    unfold posI
    split
    · simp; omega
    · simp

theorem ins_is (x : Int) (l : List Int) : insI x l = l.take (posI x l) ++ x :: l.drop (posI x l) := by
  induction l with
  | nil => simp [insI, posI]
  | cons a t ih =>
    by_cases h : a < x
    · have e1 : insI x (a :: t) = a :: insI x t := if_pos h
      have e2 : posI x (a :: t) = posI x t + 1 := if_pos h
      rw [e1, e2, ih]
      simp
    · have e1 : insI x (a :: t) = x :: a :: t := if_neg h
      have e2 : posI x (a :: t) = 0 := if_neg h
      rw [e1, e2]
      simp

theorem ins_len (x : Int) (l : List Int) : (insI x l).length = l.length + 1 := by
  rw [ins_is]
  simp
  have := pos_le x l
  omega

theorem pos_step {x : Int} {l : List Int} {k : Nat} (hk : k < l.length) (h : l[k] < x) : posI x (l.drop k) = posI x (l.drop (k + 1)) + 1 := by
  rw [List.drop_eq_getElem_cons hk]
  exact if_pos h

theorem pos_stop {x : Int} {l : List Int} {k : Nat} (hk : k < l.length) (h : ¬ l[k] < x) : posI x (l.drop k) = 0 := by
  rw [List.drop_eq_getElem_cons hk]
  exact if_neg h

theorem pos_end (x : Int) (l : List Int) : posI x (l.drop l.length) = 0 := by simp [posI]

theorem off_cons {p a : Int} {t : List Int} : offG p (a :: t) = (decide (p < a) && (decide (a ≤ 999999999) && offG a t)) := rfl

theorem off_above {p : Int} {l : List Int} (h : offG p l = true) : ∀ y ∈ l, p < y := by
  induction l generalizing p with
  | nil => intro y hy; simp at hy
  | cons a t ih =>
    rw [off_cons] at h
    simp at h
    intro y hy
    rcases List.mem_cons.1 hy with rfl | hy
    · exact h.1
    · have := ih h.2.2 y hy
      omega

theorem off_sorted {p : Int} {l : List Int} (h : offG p l = true) : l.Pairwise (· ≤ ·) := by
  induction l generalizing p with
  | nil => exact List.Pairwise.nil
  | cons a t ih =>
    rw [off_cons] at h
    simp at h
    refine List.Pairwise.cons (fun y hy => ?_) (ih h.2.2)
    have := off_above h.2.2 y hy
    omega

theorem off_count {p x : Int} {l : List Int} (h : offG p l = true) : l.countP (· < x) = posI x l := by
  induction l generalizing p with
  | nil => rfl
  | cons a t ih =>
    rw [off_cons] at h
    simp at h
    by_cases hx : a < x
    · have e2 : posI x (a :: t) = posI x t + 1 := if_pos hx
      rw [e2, ← ih h.2.2, List.countP_cons]
      simp [hx]
    · have e2 : posI x (a :: t) = 0 := if_neg hx
      rw [e2, List.countP_eq_zero]
      intro y hy
      rcases List.mem_cons.1 hy with rfl | hy
      · simpa using hx
      · have := off_above h.2.2 y hy
        simp
        omega

theorem off_twice {p x : Int} {l : List Int} (h : offG p l = true) (hx : x ∈ l) : offG p (insI x l) = false := by
  induction l generalizing p with
  | nil => simp at hx
  | cons a t ih =>
    have h0 := h
    rw [off_cons] at h
    simp at h
    by_cases ha : a < x
    · have e1 : insI x (a :: t) = a :: insI x t := if_pos ha
      have hx2 : x ∈ t := by
        rcases List.mem_cons.1 hx with rfl | hx
        · omega
        · exact hx
      rw [e1, off_cons, ih h.2.2 hx2]
      simp
    · have e1 : insI x (a :: t) = x :: a :: t := if_neg ha
      have hxa : x = a := by
        rcases List.mem_cons.1 hx with hx | hx
        · exact hx
        · have := off_above h.2.2 x hx
          omega
      subst hxa
      rw [e1, off_cons, off_cons]
      simp

theorem offB_twice {x : Int} {l : List Int} (h : offB l = true) (hx : x ∈ l) : offB (insI x l) = false := by
  unfold offB at h
  simp at h
  unfold offB
  rw [off_twice h.2 hx, Bool.and_false]

theorem offB_G {l : List Int} (h : offB l = true) : offG 0 l = true := by
  unfold offB at h
  simp at h
  exact h.2

theorem offB_len {l : List Int} (h : offB l = true) : l.length ≤ 200 := by
  unfold offB at h
  simp at h
  exact h.1

theorem cen_off {o : Ctr} (h : cenB o = true) : offB o.ol = true := by
  unfold cenB at h
  simp at h
  exact h.2.1

/-- Whether a number is taken off, and the centre then. -/
def revB (o : Ctr) (x : Int) : Bool := cenB o && offB (insI x o.ol)
def revO (b : Bool) (o : Ctr) (x : Int) : Ctr := if b = true then ⟨wrap64 (o.ve + 1), insI x o.ol, o.sl⟩ else o

theorem rev_no (o : Ctr) (x : Int) : revO false o x = o := rfl
theorem rev_yes (o : Ctr) (x : Int) : revO true o x = ⟨wrap64 (o.ve + 1), insI x o.ol, o.sl⟩ := rfl
theorem rev_no0 {o : Ctr} {x : Int} (h : cenB o = false) : revB o x = false := by unfold revB; rw [h, Bool.false_and]
theorem rev_no1 {o : Ctr} {x : Int} (h : offB (insI x o.ol) = false) : revB o x = false := by unfold revB; rw [h, Bool.and_false]
theorem rev_is {o : Ctr} {x : Int} (h : cenB o = true) (h1 : offB (insI x o.ol) = true) : revB o x = true := by unfold revB; rw [h, h1]; rfl
theorem rev_has {o : Ctr} {x : Int} (h : cenB o = true) (hx : x ∈ o.ol) : revB o x = false := rev_no1 (offB_twice (cen_off h) hx)

end Hn
end Go.Proofs.Ytbmfhdlbbaabgaa

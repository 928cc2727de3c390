/- Contracts of the times of a ride, of the model and of the program. -/
import Derived.Test.YtfoccmhmgdengaaTnFind
import Derived.Test.YtfoccmhmgdengaaTnTakes
import Derived.Test.YtfoccmhmgdengaaTnRuns
import Derived.Test.YtfoccmhmgdengaaTnRides
namespace Go.Proofs.Ytfoccmhmgdengaa
namespace Tn
open Go.ChangeShapes Go.WideShapes Go.ChangeAt Go.RowKit
open Pk (new_below join_below cell_at heap_new frozen_at lt_of kept heap_old info_of own_form own_below Room)
open Rd (Ri)
set_option linter.unusedSimpArgs false
set_option linter.unusedVariables false

/-- What is found, as a train. -/
def rT (r : Option Tr) : Tr := match r with
  | some t => t
  | none => ⟨⟨0, 0, 0, 0⟩, []⟩

theorem rT_le {ts : List Tr} {M : Nat} (h : ∀ i (hi : i < ts.length), ts[i].l.length ≤ M) (id : Int) : (rT (fnd ts id)).l.length ≤ M := by
  cases hf : fnd ts id with
  | none => simp [rT]
  | some t =>
    have hm : t ∈ ts := List.mem_of_find?_eq_some hf
    obtain ⟨i, hi, rfl⟩ := List.getElem_of_mem hm
    exact h i hi

theorem found_any {w w' : World} {r : Option Tr} {e : Ending} (h : Found w w' r e) : ∃ va vc, e = .returned (.tuple #[trV (rT r).h va (rT r).l.length vc, .bool r.isSome]) ∧ w'.ownsRow w.heap.size 42 3 (.slice va (rT r).l.length vc) (rT r).l.length (scells (rT r).l) := by
  cases r with
  | none => exact ⟨none, 0, h, rfl, Or.inl ⟨rfl, rfl⟩⟩
  | some t =>
    obtain ⟨v, he, ho⟩ := h
    obtain ⟨va, vc, rfl, -⟩ := own_form ho
    exact ⟨va, vc, he, ho⟩

/-- Whether a ride can be, when it sets out, when it arrives. -/
def hopB (ts : List Tr) (r : Ri) : Bool := (fnd ts r.tr).isSome && (cutB (rT (fnd ts r.tr)).h (rT (fnd ts r.tr)).l r.fr r.to && runsB (rT (fnd ts r.tr)).h (rT (fnd ts r.tr)).l r.dy)
def hopD (ts : List Tr) (r : Ri) : Int := if hopB ts r = true then 1440 * r.dy + ((rT (fnd ts r.tr)).l.getD (cutA (rT (fnd ts r.tr)).h (rT (fnd ts r.tr)).l r.fr r.to).toNat z0).dp else 0
def hopA (ts : List Tr) (r : Ri) : Int := if hopB ts r = true then 1440 * r.dy + ((rT (fnd ts r.tr)).l.getD (cutZ (rT (fnd ts r.tr)).h (rT (fnd ts r.tr)).l r.fr r.to).toNat z0).ar else 0

theorem hop_no {ts : List Tr} {r : Ri} (h : hopB ts r = false) : hopD ts r = 0 ∧ hopA ts r = 0 := by
  unfold hopD hopA
  rw [h]
  exact ⟨rfl, rfl⟩

theorem runs_day {t : Hd} {l : List St} {d : Int} (h : runsB t l d = true) : 0 ≤ d ∧ d ≤ 99999 := by
  unfold runsB at h
  simp only [Bool.and_eq_true] at h
  exact inB_yes h.2.1

/-- What a ride that can be tells. -/
theorem hop_is {ts : List Tr} {r : Ri} (h : hopB ts r = true) : ∃ i j : Nat, ∃ (hi : i < (rT (fnd ts r.tr)).l.length) (hj : j < (rT (fnd ts r.tr)).l.length), i < j ∧ cutB (rT (fnd ts r.tr)).h (rT (fnd ts r.tr)).l r.fr r.to = true ∧ cutA (rT (fnd ts r.tr)).h (rT (fnd ts r.tr)).l r.fr r.to = i ∧ cutZ (rT (fnd ts r.tr)).h (rT (fnd ts r.tr)).l r.fr r.to = j ∧ (rT (fnd ts r.tr)).l[i].st = r.fr ∧ (rT (fnd ts r.tr)).l[j].st = r.to ∧ (rT (fnd ts r.tr)).h.id = r.tr ∧ hopD ts r = 1440 * r.dy + (rT (fnd ts r.tr)).l[i].dp ∧ hopA ts r = 1440 * r.dy + (rT (fnd ts r.tr)).l[j].ar ∧ 0 ≤ r.dy ∧ r.dy ≤ 99999 := by
  have h0 := h
  unfold hopB at h
  simp only [Bool.and_eq_true] at h
  obtain ⟨h1, h2, h3⟩ := h
  obtain ⟨i, j, hi, hj, hij, e1, e2, -, -, e3, e4⟩ := cut_is h2
  have hid : (rT (fnd ts r.tr)).h.id = r.tr := by
    cases hf : fnd ts r.tr with
    | none => rw [hf] at h1; cases h1
    | some t =>
      have := List.find?_some hf
      simpa [rT] using this
  refine ⟨i, j, hi, hj, hij, h2, e1, e2, e3, e4, hid, ?_, ?_, runs_day h3⟩
  · unfold hopD
    rw [if_pos h0, e1, Int.toNat_natCast, getD_at _ i hi]
  · unfold hopA
    rw [if_pos h0, e2, Int.toNat_natCast, getD_at _ j hj]

end Tn
end Go.Proofs.Ytfoccmhmgdengaa

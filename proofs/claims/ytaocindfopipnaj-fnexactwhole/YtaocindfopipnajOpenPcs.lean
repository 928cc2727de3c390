/- A slice of pieces that came in: what its cells hold. -/
import Derived.Test.YtaocindfopipnajPkPcs
import Derived.Deep.Slices
import Derived.Deep.Strs
namespace Go.Proofs.Ytaocindfopipnaj
namespace Pk
open Go.ChangeShapes Go.WideShapes Go.ChangeAt Go.RowKit
open Math (Pc)
set_option linter.unusedSimpArgs false
set_option linter.unusedVariables false

theorem pc_cells {H : Type} {enc : TypeId × Value → H} {W : World} {base : Nat} {spare : Nat → Bool} {held : Bool} {fuel : Nat} {cs : List Value} {x : DataW H × List MemPlace} (h : DataW.trod enc Try.prog W base spare held fuel 47 cs = some x) :
    ∃ p : Pc, cs = [.int .i64 p.x, .int .i64 p.n, .int .i64 p.d] := by
  obtain ⟨y0, y1, y2, n, -, hl, h0, h1, h2⟩ := Go.Deep.trod_struct3 Try.underlying47 h
  have hl3 : cs.length = 3 := hl.trans (by kernel_rfl)
  have c1 : Try.prog.cellsOf 3 = 1 := by kernel_rfl
  match cs, hl3 with
  | [v0, v1, v2], _ =>
    simp [c1] at h0 h1 h2
    obtain ⟨a0, e0, -, -⟩ := DataW.trod_int Try.underlying3 h0
    obtain ⟨a1, e1, -, -⟩ := DataW.trod_int Try.underlying3 h1
    obtain ⟨a2, e2, -, -⟩ := DataW.trod_int Try.underlying3 h2
    simp at e0 e1 e2
    exact ⟨⟨a0, a1, a2⟩, by rw [e0, e1, e2]⟩

theorem pcs_open {H : Type} {enc : TypeId × Value → H} {W : World} {base : Nat} {spare : Nat → Bool} {held : Bool} {fuel : Nat} {cs : List Value} {x : DataW H × List MemPlace} (h : DataW.trod enc Try.prog W base spare held fuel 27 cs = some x) :
    cs = [.slice none 0 0] ∨ ∃ (a : Addr) (len cap : Nat), cs = [.slice (some a) len cap] ∧ len ≤ maxLen ∧ ∃ ps : List Pc, ps.length = len ∧ Pcs W (some a) ps := by
  rcases Go.Deep.open_slice Try.underlying27 h with ⟨h0, -⟩ | ⟨a, len, cap, m, n, D, Pl, rfl, hb, hl, hm, hmm, -, hx⟩
  · exact Or.inl h0
  right
  refine ⟨a, len, cap, rfl, Nat.le_trans hl hm, ?_⟩
  have hlm : len ≤ m := by rw [hmm]; split <;> omega
  have c3 : Try.prog.cellsOf 47 = 3 := by kernel_rfl
  have each : ∀ i, i < len → ∃ p : Pc, W.cell? (a.add (i * 3)) = some (.int .i64 p.x) ∧ W.cell? (a.add (i * 3 + 1)) = some (.int .i64 p.n) ∧ W.cell? (a.add (i * 3 + 2)) = some (.int .i64 p.d) := by
    intro i hi
    obtain ⟨cs', h1, h2⟩ := hx i (by omega)
    rw [c3] at h1
    obtain ⟨-, hlen, hcell⟩ := World.cells?_some h1
    obtain ⟨p, rfl⟩ := pc_cells h2
    refine ⟨p, ?_, ?_, ?_⟩
    · have := hcell 0 (by omega)
      rw [Go.Deep.add_add] at this
      simpa using this
    · have := hcell 1 (by omega)
      rw [Go.Deep.add_add] at this
      simpa using this
    · have := hcell 2 (by omega)
      rw [Go.Deep.add_add] at this
      simpa using this
  haveI : Inhabited Pc := ⟨⟨0, 0, 0⟩⟩
  obtain ⟨q, hq⟩ := Go.Deep.choose_lt each
  refine ⟨(List.range len).map q, by simp, ?_⟩
  by_cases h0 : len = 0
  · subst h0; exact Or.inl rfl
  · obtain ⟨b, o, spot⟩ := a
    have hs := World.cell?_spot (hq 0 (by omega)).1
    simp [Addr.add] at hs
    subst hs
    refine Or.inr ⟨b, o, rfl, ?_, fun i hi => ?_⟩
    · have h1 := (hq 0 (by omega)).1
      apply Nat.lt_of_not_le
      intro hle
      unfold World.cell? at h1
      simp [Addr.add, Array.getElem?_eq_none hle] at h1
    · simp at hi
      have := hq i hi
      simp [add_plain] at this
      simpa [Nat.add_assoc] using this

end Pk
end Go.Proofs.Ytaocindfopipnaj

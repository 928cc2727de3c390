/- A train, and a list of trains, that came in: what they hold. -/
import Derived.Test.YtfoccmhmgdengaaTnTrn
namespace Go.Proofs.Ytfoccmhmgdengaa
namespace Tn
open Go.ChangeShapes Go.WideShapes Go.ChangeAt Go.RowKit
set_option linter.unusedSimpArgs false
set_option linter.unusedVariables false

set_option maxRecDepth 100000 in
theorem stop_cells {H : Type} {enc : TypeId × Value → H} {W : World} {base : Nat} {spare : Nat → Bool} {held : Bool} {fuel : Nat} {cs : List Value} {x : DataW H × List MemPlace} (h : DataW.trod enc Try.prog W base spare held fuel 130 cs = some x) :
    ∃ p : St, cs = [.int .i64 p.st, .int .i64 p.ar, .int .i64 p.dp] := by
  obtain ⟨xs, n, -, -, hl, hxl, hf⟩ := DataW.trod_struct Try.underlying130 h
  have hl3 : cs.length = 3 := hl.trans (by kernel_rfl)
  have c1 : Try.prog.cellsOf 3 = 1 := by kernel_rfl
  match xs, hxl, cs, hl3 with
  | [y0, y1, y2], _, [v0, v1, v2], _ =>
    have h0 := hf 0 _ rfl
    have h1 := hf 1 _ rfl
    have h2 := hf 2 _ rfl
    simp [c1] at h0 h1 h2
    obtain ⟨a0, e0, -, -⟩ := DataW.trod_int Try.underlying3 h0
    obtain ⟨a1, e1, -, -⟩ := DataW.trod_int Try.underlying3 h1
    obtain ⟨a2, e2, -, -⟩ := DataW.trod_int Try.underlying3 h2
    simp at e0 e1 e2
    exact ⟨⟨a0, a1, a2⟩, by rw [e0, e1, e2]⟩

theorem stops_open {H : Type} {enc : TypeId × Value → H} {W : World} {base : Nat} {spare : Nat → Bool} {held : Bool} {fuel : Nat} {cs : List Value} {x : DataW H × List MemPlace} (h : DataW.trod enc Try.prog W base spare held fuel 83 cs = some x) :
    ∃ (a : Option Addr) (cap : Nat) (ps : List St), cs = [.slice a ps.length cap] ∧ ps.length ≤ maxLen ∧ Stops W a ps := by
  rcases Go.Deep.open_slice Try.underlying83 h with ⟨h0, -⟩ | ⟨a, len, cap, m, n, D, Pl, rfl, hb, hl, hm, hmm, -, hx⟩
  · exact ⟨none, 0, [], h0, by simp, Or.inl rfl⟩
  have hlm : len ≤ m := by rw [hmm]; split <;> omega
  have c3 : Try.prog.cellsOf 130 = 3 := by kernel_rfl
  have each : ∀ i, i < len → ∃ p : St, W.cell? (a.add (i * 3)) = some (.int .i64 p.st) ∧ W.cell? (a.add (i * 3 + 1)) = some (.int .i64 p.ar) ∧ W.cell? (a.add (i * 3 + 2)) = some (.int .i64 p.dp) := by
    intro i hi
    obtain ⟨cs', h1, h2⟩ := hx i (by omega)
    rw [c3] at h1
    obtain ⟨-, hlen, hcell⟩ := World.cells?_some h1
    obtain ⟨p, rfl⟩ := stop_cells h2
    refine ⟨p, ?_, ?_, ?_⟩
    · have := hcell 0 (by omega)
      rw [Go.Deep.add_add] at this
      simpa using this
    · have := hcell 1 (by omega)
      rw [Go.Deep.add_add] at this
      simpa using this
    · have := hcell 2 (by omega)
      rw [Go.Deep.add_add] at this
      simpa using this
  haveI : Inhabited St := ⟨⟨0, 0, 0⟩⟩
  obtain ⟨q, hq⟩ := Go.Deep.choose_lt each
  refine ⟨some a, cap, (List.range len).map q, by simp, by simp; omega, ?_⟩
  by_cases h0 : len = 0
  · subst h0; exact Or.inl rfl
  · obtain ⟨b, o, spot⟩ := a
    have hs := World.cell?_spot (hq 0 (by omega)).1
    simp [Addr.add] at hs
    subst hs
    refine Or.inr ⟨b, o, rfl, ?_, fun i hi => ?_⟩
    · have h1 := (hq 0 (by omega)).1
      apply Nat.lt_of_not_le
      intro hle
      unfold World.cell? at h1
      simp [Addr.add, Array.getElem?_eq_none hle] at h1
    · simp at hi
      have := hq i hi
      simp [add_plain] at this
      simpa [Nat.add_assoc] using this

set_option maxRecDepth 100000 in
theorem train_cells {H : Type} {enc : TypeId × Value → H} {W : World} {base : Nat} {spare : Nat → Bool} {held : Bool} {fuel : Nat} {cs : List Value} {x : DataW H × List MemPlace} (h : DataW.trod enc Try.prog W base spare held fuel 85 cs = some x) :
    ∃ (t : Hd) (a : Option Addr) (cap : Nat) (ls : List St), cs = [.int .i64 t.id, .int .i64 t.dy, .int .i64 t.co, .int .i64 t.se, .slice a ls.length cap] ∧ Stops W a ls ∧ ls.length ≤ maxLen := by
  obtain ⟨xs, n, -, -, hl, hxl, hf⟩ := DataW.trod_struct Try.underlying85 h
  have hl5 : cs.length = 5 := hl.trans (by kernel_rfl)
  have c1 : Try.prog.cellsOf 3 = 1 := by kernel_rfl
  have c3 : Try.prog.cellsOf 83 = 1 := by kernel_rfl
  match xs, hxl, cs, hl5 with
  | [y0, y1, y2, y3, y4], _, [v0, v1, v2, v3, v4], _ =>
    have h0 := hf 0 _ rfl
    have h1 := hf 1 _ rfl
    have h2 := hf 2 _ rfl
    have h3 := hf 3 _ rfl
    have h4 := hf 4 _ rfl
    simp [c1, c3] at h0 h1 h2 h3 h4
    obtain ⟨a0, e0, -, -⟩ := DataW.trod_int Try.underlying3 h0
    obtain ⟨a1, e1, -, -⟩ := DataW.trod_int Try.underlying3 h1
    obtain ⟨a2, e2, -, -⟩ := DataW.trod_int Try.underlying3 h2
    obtain ⟨a3, e3, -, -⟩ := DataW.trod_int Try.underlying3 h3
    obtain ⟨a4, cap, ls, e4, hm, I⟩ := stops_open h4
    simp at e0 e1 e2 e3 e4
    exact ⟨⟨a0, a1, a2, a3⟩, a4, cap, ls, by rw [e0, e1, e2, e3, e4], I, hm⟩

set_option maxRecDepth 100000 in
theorem tr_open {H : Type} {enc : TypeId × Value → H} {W : World} {base b0 : Nat} {r : Reach} {spare : Nat → Bool} {held : Bool} {v : Value} {d : DataW H} {p : List MemPlace}
    (hv : Value.okWide Try.prog W r b0 85 v) (h : DataW.Trod enc Try.prog W base spare held 85 v d p) :
    ∃ (t : Hd) (a : Option Addr) (cap : Nat) (ls : List St), v = trV t a ls.length cap ∧ Stops W a ls ∧ ls.length ≤ maxLen := by
  obtain ⟨cs, rfl, hsz⟩ := okWide_struct Try.underlying85 hv
  obtain ⟨fuel, hf⟩ := h
  obtain ⟨t, a, cap, ls, e, I, hm⟩ := train_cells hf
  refine ⟨t, a, cap, ls, ?_, I, hm⟩
  obtain ⟨cs⟩ := cs
  simp [Value.cells] at e
  subst e
  rfl

end Tn
end Go.Proofs.Ytfoccmhmgdengaa

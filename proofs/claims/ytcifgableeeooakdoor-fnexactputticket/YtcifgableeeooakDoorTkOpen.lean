/- A ticket that came in: what it holds. -/
import Derived.Test.YtcifgableeeooakDoorTkTic
namespace Go.Proofs.YtcifgableeeooakDoor
namespace Tk
open Go.ChangeShapes Go.WideShapes Go.ChangeAt Go.RowKit
set_option linter.unusedSimpArgs false
set_option linter.unusedVariables false

set_option maxRecDepth 100000 in
theorem leg_cells {H : Type} {enc : TypeId × Value → H} {W : World} {base : Nat} {spare : Nat → Bool} {held : Bool} {fuel : Nat} {cs : List Value} {x : DataW H × List MemPlace} (h : DataW.trod enc Tryd.prog W base spare held fuel 79 cs = some x) :
    ∃ p : Lg, cs = [.int .i64 p.tr, .int .i64 p.dy, .int .i64 p.fr, .int .i64 p.to, .int .i64 p.co, .int .i64 p.se] := by
  obtain ⟨xs, n, -, -, hl, hxl, hf⟩ := DataW.trod_struct Tryd.underlying79 h
  have hl6 : cs.length = 6 := hl.trans (by kernel_rfl)
  have c1 : Tryd.prog.cellsOf 3 = 1 := by kernel_rfl
  match xs, hxl, cs, hl6 with
  | [y0, y1, y2, y3, y4, y5], _, [v0, v1, v2, v3, v4, v5], _ =>
    have h0 := hf 0 _ rfl
    have h1 := hf 1 _ rfl
    have h2 := hf 2 _ rfl
    have h3 := hf 3 _ rfl
    have h4 := hf 4 _ rfl
    have h5 := hf 5 _ rfl
    simp [c1] at h0 h1 h2 h3 h4 h5
    obtain ⟨a0, e0, -, -⟩ := DataW.trod_int Tryd.underlying3 h0
    obtain ⟨a1, e1, -, -⟩ := DataW.trod_int Tryd.underlying3 h1
    obtain ⟨a2, e2, -, -⟩ := DataW.trod_int Tryd.underlying3 h2
    obtain ⟨a3, e3, -, -⟩ := DataW.trod_int Tryd.underlying3 h3
    obtain ⟨a4, e4, -, -⟩ := DataW.trod_int Tryd.underlying3 h4
    obtain ⟨a5, e5, -, -⟩ := DataW.trod_int Tryd.underlying3 h5
    simp at e0 e1 e2 e3 e4 e5
    exact ⟨⟨a0, a1, a2, a3, a4, a5⟩, by rw [e0, e1, e2, e3, e4, e5]⟩

theorem legs_open {H : Type} {enc : TypeId × Value → H} {W : World} {base : Nat} {spare : Nat → Bool} {held : Bool} {fuel : Nat} {cs : List Value} {x : DataW H × List MemPlace} (h : DataW.trod enc Tryd.prog W base spare held fuel 25 cs = some x) :
    ∃ (a : Option Addr) (cap : Nat) (ps : List Lg), cs = [.slice a ps.length cap] ∧ ps.length ≤ maxLen ∧ Legs W a ps := by
  rcases Go.Deep.open_slice Tryd.underlying25 h with ⟨h0, -⟩ | ⟨a, len, cap, m, n, D, Pl, rfl, hb, hl, hm, hmm, -, hx⟩
  · exact ⟨none, 0, [], h0, by simp, Or.inl rfl⟩
  have hlm : len ≤ m := by rw [hmm]; split <;> omega
  have c6 : Tryd.prog.cellsOf 79 = 6 := by kernel_rfl
  have each : ∀ i, i < len → ∃ p : Lg, W.cell? (a.add (i * 6)) = some (.int .i64 p.tr) ∧ W.cell? (a.add (i * 6 + 1)) = some (.int .i64 p.dy) ∧ W.cell? (a.add (i * 6 + 2)) = some (.int .i64 p.fr) ∧ W.cell? (a.add (i * 6 + 3)) = some (.int .i64 p.to) ∧ W.cell? (a.add (i * 6 + 4)) = some (.int .i64 p.co) ∧ W.cell? (a.add (i * 6 + 5)) = some (.int .i64 p.se) := by
    intro i hi
    obtain ⟨cs', h1, h2⟩ := hx i (by omega)
    rw [c6] at h1
    obtain ⟨-, hlen, hcell⟩ := World.cells?_some h1
    obtain ⟨p, rfl⟩ := leg_cells h2
    refine ⟨p, ?_, ?_, ?_, ?_, ?_, ?_⟩
    · have := hcell 0 (by omega)
      rw [Go.Deep.add_add] at this
      simpa using this
    · have := hcell 1 (by omega)
      rw [Go.Deep.add_add] at this
      simpa using this
    · have := hcell 2 (by omega)
      rw [Go.Deep.add_add] at this
      simpa using this
    · have := hcell 3 (by omega)
      rw [Go.Deep.add_add] at this
      simpa using this
    · have := hcell 4 (by omega)
      rw [Go.Deep.add_add] at this
      simpa using this
    · have := hcell 5 (by omega)
      rw [Go.Deep.add_add] at this
      simpa using this
  haveI : Inhabited Lg := ⟨⟨0, 0, 0, 0, 0, 0⟩⟩
  obtain ⟨q, hq⟩ := Go.Deep.choose_lt each
  refine ⟨some a, cap, (List.range len).map q, by simp, by simp; omega, ?_⟩
  by_cases h0 : len = 0
  · subst h0; exact Or.inl rfl
  · obtain ⟨b, o, spot⟩ := a
    have hs := World.cell?_spot (hq 0 (by omega)).1
    simp [Addr.add] at hs
    subst hs
    refine Or.inr ⟨b, o, rfl, ?_, fun i hi => ?_⟩
    · have h1 := (hq 0 (by omega)).1
      apply Nat.lt_of_not_le
      intro hle
      unfold World.cell? at h1
      simp [Addr.add, Array.getElem?_eq_none hle] at h1
    · simp at hi
      have := hq i hi
      simp [add_plain] at this
      simpa [Nat.add_assoc] using this

set_option maxRecDepth 100000 in
theorem tic_open {H : Type} {enc : TypeId × Value → H} {W : World} {base b0 : Nat} {r : Reach} {spare : Nat → Bool} {held : Bool} {v : Value} {d : DataW H} {p : List MemPlace}
    (hv : Value.okWide Tryd.prog W r b0 27 v) (h : DataW.Trod enc Tryd.prog W base spare held 27 v d p) :
    ∃ (t : Hd) (s : ByteArray) (a : Option Addr) (cap : Nat) (ls : List Lg), v = tkV t s a ls.length cap ∧ s.size ≤ maxLen ∧ Legs W a ls ∧ ls.length ≤ maxLen := by
  obtain ⟨cs, rfl, hsz⟩ := okWide_struct Tryd.underlying27 hv
  obtain ⟨fuel, hf⟩ := h
  obtain ⟨xs, n, -, -, hl, hxl, hf⟩ := DataW.trod_struct Tryd.underlying27 hf
  have hl7 : cs.toList.length = 7 := by rw [Array.length_toList]; exact hsz.trans (by kernel_rfl)
  have c1 : Tryd.prog.cellsOf 3 = 1 := by kernel_rfl
  have c2 : Tryd.prog.cellsOf 9 = 1 := by kernel_rfl
  have c3 : Tryd.prog.cellsOf 25 = 1 := by kernel_rfl
  obtain ⟨cs⟩ := cs
  match xs, hxl, cs, hl7 with
  | [y0, y1, y2, y3, y4, y5, y6], _, [v0, v1, v2, v3, v4, v5, v6], _ =>
    have h0 := hf 0 _ rfl
    have h1 := hf 1 _ rfl
    have h2 := hf 2 _ rfl
    have h3 := hf 3 _ rfl
    have h4 := hf 4 _ rfl
    have h5 := hf 5 _ rfl
    have h6 := hf 6 _ rfl
    simp [c1, c2, c3, Value.cells] at h0 h1 h2 h3 h4 h5 h6
    obtain ⟨a0, e0, -, -⟩ := DataW.trod_int Tryd.underlying3 h0
    obtain ⟨a1, e1, -, w1⟩ := DataW.trod_string Tryd.underlying9 h1
    obtain ⟨a2, e2, -, -⟩ := DataW.trod_int Tryd.underlying3 h2
    obtain ⟨a3, e3, -, -⟩ := DataW.trod_int Tryd.underlying3 h3
    obtain ⟨a4, e4, -, -⟩ := DataW.trod_int Tryd.underlying3 h4
    obtain ⟨a5, e5, -, -⟩ := DataW.trod_int Tryd.underlying3 h5
    obtain ⟨a6, cap, ls, e6, hm, I⟩ := legs_open h6
    simp at e0 e1 e2 e3 e4 e5 e6
    subst e0 e1 e2 e3 e4 e5 e6
    exact ⟨⟨a0, a2, a3, a4, a5⟩, a1, a6, cap, ls, rfl, w1, I, hm⟩

end Tk
end Go.Proofs.YtcifgableeeooakDoor

/- A device that came in. -/
import Derived.Test.YtlgolnddhfadeabHnHand
import Derived.Test.YtlgolnddhfadeabHnOpen
import Derived.Lib.SmallJoins
import Derived.Test.YtlgolnddhfadeabErrs
namespace Go.Proofs.Ytlgolnddhfadeab
namespace Hn
open Go.ChangeShapes Go.WideShapes Go.ChangeAt Go.RowKit Go.Joins
set_option linter.unusedSimpArgs false
set_option linter.unusedVariables false

theorem ints_open {H : Type} {enc : TypeId × Value → H} {W : World} {base : Nat} {spare : Nat → Bool} {held : Bool} {fuel : Nat} {cs : List Value} {x : DataW H × List MemPlace} (h : DataW.trod enc Try.prog W base spare held fuel 24 cs = some x) :
    ∃ (a : Option Addr) (cap : Nat) (zs : List Int), cs = [.slice a zs.length cap] ∧ zs.length ≤ maxLen ∧ Ints W a zs := by
  rcases Go.Deep.open_slice Try.underlying24 h with ⟨h0, -⟩ | ⟨a, len, cap, m, n, D, Pl, rfl, hb, hl, hm, hmm, -, hx⟩
  · exact ⟨none, 0, [], h0, by simp, Or.inl rfl⟩
  have hlm : len ≤ m := by rw [hmm]; split <;> omega
  have c1 : Try.prog.cellsOf 3 = 1 := by kernel_rfl
  have each : ∀ i, i < len → ∃ p : Int, W.cell? (a.add i) = some (.int .i64 p) := by
    intro i hi
    obtain ⟨cs', h1, h2⟩ := hx i (by omega)
    rw [c1] at h1
    obtain ⟨-, hlen, hcell⟩ := World.cells?_some h1
    obtain ⟨p, e, -, -⟩ := DataW.trod_int Try.underlying3 h2
    subst e
    refine ⟨p, ?_⟩
    have := hcell 0 (by simp)
    rw [Go.Deep.add_add] at this
    simpa using this
  obtain ⟨q, hq⟩ := Go.Deep.choose_lt each
  refine ⟨some a, cap, (List.range len).map q, by simp, by simp; omega, ?_⟩
  by_cases h0 : len = 0
  · subst h0; exact Or.inl rfl
  · obtain ⟨b, o, spot⟩ := a
    have hs := World.cell?_spot (hq 0 (by omega))
    simp [Addr.add] at hs
    subst hs
    refine Or.inr ⟨b, o, rfl, ?_, fun i hi => ?_⟩
    · have h1 := hq 0 (by omega)
      apply Nat.lt_of_not_le
      intro hle
      unfold World.cell? at h1
      simp [Addr.add, Array.getElem?_eq_none hle] at h1
    · simp at hi
      have := hq i hi
      simp [add_plain] at this
      simpa [Nat.add_assoc] using this

set_option maxRecDepth 100000 in
theorem params_cells {H : Type} {enc : TypeId × Value → H} {W : World} {base : Nat} {spare : Nat → Bool} {held : Bool} {fuel : Nat} {cs : List Value} {x : DataW H × List MemPlace} (h : DataW.trod enc Try.prog W base spare held fuel 23 cs = some x) :
    ∃ p q g : Int, cs = [.int .i64 p, .int .i64 q, .int .i64 g] ∧ WfI p ∧ WfI q ∧ WfI g := by
  obtain ⟨xs, n, -, -, hl, hxl, hf⟩ := DataW.trod_struct Try.underlying23 h
  have hl4 : cs.length = 3 := hl.trans (by kernel_rfl)
  have c1 : Try.prog.cellsOf 3 = 1 := by kernel_rfl
  match xs, hxl, cs, hl4 with
  | [y0, y1, y2], _, [v0, v1, v2], _ =>
    have h0 := hf 0 _ rfl
    have h1 := hf 1 _ rfl
    have h2 := hf 2 _ rfl
    simp [c1] at h0 h1 h2
    obtain ⟨a0, e0, -, w0⟩ := DataW.trod_int Try.underlying3 h0
    obtain ⟨a1, e1, -, w1⟩ := DataW.trod_int Try.underlying3 h1
    obtain ⟨a2, e2, -, w2⟩ := DataW.trod_int Try.underlying3 h2
    simp at e0 e1 e2
    exact ⟨a0, a1, a2, by rw [e0, e1, e2], w0, w1, w2⟩

/-- Bounds of what came in. -/
structure Lim (o : Hnd) : Prop where
  ol : o.ol.length ≤ maxLen
  sl : o.sl.length ≤ maxLen
  dv : WfI o.dv
  p : WfI o.p
  q : WfI o.q
  g : WfI o.g
  op : WfI o.op
  is : WfI o.is
  ve : WfI o.ve

set_option maxRecDepth 100000 in
theorem hand_open {H : Type} {enc : TypeId × Value → H} {W : World} {base b0 : Nat} {r : Reach} {spare : Nat → Bool} {held : Bool} {v : Value} {d : DataW H} {p : List MemPlace}
    (hv : Value.okWide Try.prog W r b0 27 v) (h : DataW.Trod enc Try.prog W base spare held 27 v d p) :
    ∃ (x : Pl) (o : Hnd), v = hnV x o ∧ In W x o ∧ Lim o := by
  obtain ⟨cs, rfl, hsz⟩ := okWide_struct Try.underlying27 hv
  obtain ⟨fuel, hf⟩ := h
  obtain ⟨xs, n, -, -, hl, hxl, hf⟩ := DataW.trod_struct Try.underlying27 hf
  obtain ⟨cs⟩ := cs
  have hl9 : cs.length = 9 := by simpa [Value.cells] using hl.trans (by kernel_rfl : _ = 9)
  have c1 : Try.prog.cellsOf 3 = 1 := by kernel_rfl
  have t0 : Try.prog.cellsOf 24 = 1 := by kernel_rfl
  have t1 : Try.prog.cellsOf 25 = 1 := by kernel_rfl
  have t2 : Try.prog.cellsOf 23 = 3 := by kernel_rfl
  match xs, hxl, cs, hl9 with
  | [y0, y1, y2, y3, y4, y5, y6], _, [v0, v1, v2, v3, v4, v5, v6, v7, v8], _ =>
    have h0 := hf 0 _ rfl
    have h1 := hf 1 _ rfl
    have h2 := hf 2 _ rfl
    have h3 := hf 3 _ rfl
    have h4 := hf 4 _ rfl
    have h5 := hf 5 _ rfl
    have h6 := hf 6 _ rfl
    simp [Value.cells, c1, t0, t1, t2] at h0 h1 h2 h3 h4 h5 h6
    obtain ⟨a0, e0, -, w0⟩ := DataW.trod_int Try.underlying3 h0
    obtain ⟨p, q, g, e1, wp, wq, wg⟩ := params_cells h1
    obtain ⟨a2, e2, -, w2⟩ := DataW.trod_int Try.underlying3 h2
    obtain ⟨a3, e3, -, w3⟩ := DataW.trod_int Try.underlying3 h3
    obtain ⟨a4, e4, -, w4⟩ := DataW.trod_int Try.underlying3 h4
    obtain ⟨a5, c5, z5, e5, l5, I5⟩ := ints_open h5
    obtain ⟨a6, c6, z6, e6, l6, I6, -⟩ := controls_open h6
    simp at e0 e1 e2 e3 e4 e5 e6
    refine ⟨⟨a5, c5, a6, c6⟩, ⟨a0, p, q, g, a2, a3, a4, z5, z6⟩, ?_, ⟨I5, I6⟩, ⟨l5, l6, w0, wp, wq, wg, w2, w3, w4⟩⟩
    rw [e0, e1.1, e1.2.1, e1.2.2, e2, e3, e4, e5, e6]

end Hn
end Go.Proofs.Ytlgolnddhfadeab

/- A centre that came in. -/
import Derived.Test.YtjjfleepnjhamaaCeCtr
import Derived.Test.YtjjfleepnjhamaaHnOpen
import Derived.Lib.SmallJoins
import Derived.Test.YtjjfleepnjhamaaErrs
namespace Go.Proofs.Ytjjfleepnjhamaa
namespace Hn
open Go.ChangeShapes Go.WideShapes Go.ChangeAt Go.RowKit Go.Joins
set_option linter.unusedSimpArgs false
set_option linter.unusedVariables false

theorem ints_open {H : Type} {enc : TypeId × Value → H} {W : World} {base : Nat} {spare : Nat → Bool} {held : Bool} {fuel : Nat} {cs : List Value} {x : DataW H × List MemPlace} (h : DataW.trod enc Try.prog W base spare held fuel 22 cs = some x) :
    ∃ (a : Option Addr) (cap : Nat) (zs : List Int), cs = [.slice a zs.length cap] ∧ zs.length ≤ maxLen ∧ Ints W a zs := by
  rcases Go.Deep.open_slice Try.underlying22 h with ⟨h0, -⟩ | ⟨a, len, cap, m, n, D, Pl, rfl, hb, hl, hm, hmm, -, hx⟩
  · exact ⟨none, 0, [], h0, by simp, Or.inl rfl⟩
  have hlm : len ≤ m := by rw [hmm]; split <;> omega
  have c1 : Try.prog.cellsOf 3 = 1 := by kernel_rfl
  have each : ∀ i, i < len → ∃ p : Int, W.cell? (a.add i) = some (.int .i64 p) := by
    intro i hi
    obtain ⟨cs', h1, h2⟩ := hx i (by omega)
    rw [c1] at h1
    obtain ⟨-, hlen, hcell⟩ := World.cells?_some h1
    obtain ⟨p, e, -, -⟩ := DataW.trod_int Try.underlying3 h2
    subst e
    refine ⟨p, ?_⟩
    have := hcell 0 (by simp)
    rw [Go.Deep.add_add] at this
    simpa using this
  obtain ⟨q, hq⟩ := Go.Deep.choose_lt each
  refine ⟨some a, cap, (List.range len).map q, by simp, by simp; omega, ?_⟩
  by_cases h0 : len = 0
  · subst h0; exact Or.inl rfl
  · obtain ⟨b, o, spot⟩ := a
    have hs := World.cell?_spot (hq 0 (by omega))
    simp [Addr.add] at hs
    subst hs
    refine Or.inr ⟨b, o, rfl, ?_, fun i hi => ?_⟩
    · have h1 := hq 0 (by omega)
      apply Nat.lt_of_not_le
      intro hle
      unfold World.cell? at h1
      simp [Addr.add, Array.getElem?_eq_none hle] at h1
    · simp at hi
      have := hq i hi
      simp [add_plain] at this
      simpa [Nat.add_assoc] using this

/-- Bounds of what came in. -/
structure Lim (o : Ctr) : Prop where
  ol : o.ol.length ≤ maxLen
  sl : o.sl.length ≤ maxLen
  ve : WfI o.ve
  wf : Wfs o.sl

set_option maxRecDepth 100000 in
theorem centre_open {H : Type} {enc : TypeId × Value → H} {W : World} {base b0 : Nat} {r : Reach} {spare : Nat → Bool} {held : Bool} {v : Value} {d : DataW H} {p : List MemPlace}
    (hv : Value.okWide Try.prog W r b0 25 v) (h : DataW.Trod enc Try.prog W base spare held 25 v d p) :
    ∃ (x : Pl) (o : Ctr), v = ceV x o ∧ In W x o ∧ Lim o := by
  obtain ⟨cs, rfl, hsz⟩ := okWide_struct Try.underlying25 hv
  obtain ⟨fuel, hf⟩ := h
  obtain ⟨xs, n, -, -, hl, hxl, hf⟩ := DataW.trod_struct Try.underlying25 hf
  obtain ⟨cs⟩ := cs
  have hl9 : cs.length = 3 := by simpa [Value.cells] using hl.trans (by kernel_rfl : _ = 3)
  have c1 : Try.prog.cellsOf 3 = 1 := by kernel_rfl
  have t0 : Try.prog.cellsOf 22 = 1 := by kernel_rfl
  have t1 : Try.prog.cellsOf 23 = 1 := by kernel_rfl
  match xs, hxl, cs, hl9 with
  | [y0, y1, y2], _, [v0, v1, v2], _ =>
    have h0 := hf 0 _ rfl
    have h1 := hf 1 _ rfl
    have h2 := hf 2 _ rfl
    simp [Value.cells, c1, t0, t1] at h0 h1 h2
    obtain ⟨a0, e0, -, w0⟩ := DataW.trod_int Try.underlying3 h0
    obtain ⟨a5, c5, z5, e5, l5, I5⟩ := ints_open h1
    obtain ⟨a6, c6, z6, e6, l6, I6, W6⟩ := controls_open h2
    simp at e0 e5 e6
    refine ⟨⟨a5, c5, a6, c6⟩, ⟨a0, z5, z6⟩, ?_, ⟨I5, I6⟩, ⟨l5, l6, w0, W6⟩⟩
    rw [e0, e5, e6]

end Hn
end Go.Proofs.Ytjjfleepnjhamaa

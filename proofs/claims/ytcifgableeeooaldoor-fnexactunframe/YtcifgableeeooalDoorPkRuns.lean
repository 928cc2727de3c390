/- The program's table of runs: what the rows list of it, and what its cells hold. -/
import Derived.Test.YtcifgableeeooalDoorPkRow
import Derived.Test.YtcifgableeeooalDoorErrs
import Derived.Deep.Strs
namespace Go.Proofs.YtcifgableeeooalDoor
namespace Pk
open Go.ChangeShapes Go.WideShapes Go.ChangeAt Go.RowKit
set_option linter.unusedSimpArgs false
set_option linter.unusedVariables false

/-- The numbers of the table. -/
def runVals : List Int := [256, 279, 7, 0, 0, 143, 8, 48, 280, 287, 8, 192, 144, 255, 9, 400]

/-- The table lies in its variable. -/
def Runs (w : World) : Prop := ∀ i, i < 16 → w.cell? ⟨0, i, none⟩ = some (.int .i64 (runVals.getD i 0))

/-- A world with the table in it. -/
def runsW (w : World) : World := { w with heap := w.heap.modify 0 (Errs.put (runVals.map fun z => Value.int .i64 z).toArray) }

theorem Runs.lt {w : World} (h : Runs w) : 0 < w.heap.size := by
  have ha := h 0 (by omega)
  apply Nat.lt_of_not_le
  intro hle
  unfold World.cell? at ha
  rw [Array.getElem?_eq_none hle] at ha
  simp at ha

theorem Runs.on {w w1 : World} (h : Runs w) {B : Nat} (L : Below B w w1) (hB : 0 < B) : Runs w1 := by
  intro i hi
  rw [L.cell (p := ⟨0, i, none⟩) hB]
  exact h i hi

set_option maxRecDepth 100000 in
theorem run_cells {H : Type} {enc : TypeId × Value → H} {W : World} {base : Nat} {spare : Nat → Bool} {held : Bool} {fuel : Nat} {cs : List Value} {a b c d : Int} {y : DataW H × List MemPlace} (h : DataW.trod enc Tryd.prog W base spare held fuel 72 cs = some y) (hy : y.1 = .agg [.lit (.int .i64 a), .lit (.int .i64 b), .lit (.int .i64 c), .lit (.int .i64 d)]) :
    cs = [.int .i64 a, .int .i64 b, .int .i64 c, .int .i64 d] := by
  obtain ⟨xs, n, -, rfl, hl, hxl, hf⟩ := DataW.trod_struct Tryd.underlying72 h
  have hl4 : cs.length = 4 := hl.trans (by kernel_rfl)
  have c1 : Tryd.prog.cellsOf 3 = 1 := by kernel_rfl
  match xs, hxl, cs, hl4 with
  | [y0, y1, y2, y3], _, [v0, v1, v2, v3], _ =>
    simp at hy
    have h0 := hf 0 _ rfl
    have h1 := hf 1 _ rfl
    have h2 := hf 2 _ rfl
    have h3 := hf 3 _ rfl
    simp [c1] at h0 h1 h2 h3
    obtain ⟨a0, e0, z0, -⟩ := DataW.trod_int Tryd.underlying3 h0
    obtain ⟨a1, e1, z1, -⟩ := DataW.trod_int Tryd.underlying3 h1
    obtain ⟨a2, e2, z2, -⟩ := DataW.trod_int Tryd.underlying3 h2
    obtain ⟨a3, e3, z3, -⟩ := DataW.trod_int Tryd.underlying3 h3
    subst z0 z1 z2 z3
    simp at e0 e1 e2 e3 hy
    obtain ⟨rfl, rfl, rfl, rfl⟩ := hy
    rw [e0, e1, e2, e3]

set_option maxRecDepth 100000 in
theorem runs_of {r : List (String × DataW Unit)} {W : World} (h : laidMet Tryd.prog (("loop.example/g00211/impl.fixedRuns", Rows.laid_loop_example_g00211_impl_fixedRuns) :: r) W) : Runs W := by
  obtain ⟨ps, ⟨g', t', cs, fuel, p, q, hg', ht', hvar, hd, -, -⟩, -⟩ := h
  have hg : Tryd.prog.globalNamed "loop.example/g00211/impl.fixedRuns" = some 0 := by kernel_rfl
  have hty : (Tryd.prog.globals[0]?).map (·.type) = some 73 := by kernel_rfl
  obtain rfl := Option.some.inj (hg.symm.trans hg')
  obtain rfl := Option.some.inj (hty.symm.trans ht')
  obtain ⟨cs⟩ := cs
  obtain ⟨xs, m, -, hx, hl, hxl, hf⟩ := DataW.trod_array Tryd.underlying73 hd
  have c4 : Tryd.prog.cellsOf 72 = 4 := by kernel_rfl
  have hl16 : cs.length = 16 := hl.trans (by kernel_rfl)
  match xs, hxl with
  | [y0, y1, y2, y3], _ =>
    simp [Rows.laid_loop_example_g00211_impl_fixedRuns] at hx
    obtain ⟨⟨hx0, hx1, hx2, hx3⟩, -⟩ := hx
    have h0 := hf 0 (by omega)
    have h1 := hf 1 (by omega)
    have h2 := hf 2 (by omega)
    have h3 := hf 3 (by omega)
    rw [c4] at h0 h1 h2 h3
    have k0 := run_cells h0 hx0.symm
    have k1 := run_cells h1 hx1.symm
    have k2 := run_cells h2 hx2.symm
    have k3 := run_cells h3 hx3.symm
    have hcs : cs = runVals.map (fun z => Value.int .i64 z) := by
      match cs, hl16 with
      | [v0, v1, v2, v3, v4, v5, v6, v7, v8, v9, v10, v11, v12, v13, v14, v15], _ =>
        simp at k0 k1 k2 k3
        simp [runVals, k0, k1, k2, k3]
    intro i hi
    rw [World.var?_cell hg hvar i, hcs]
    have : i < runVals.length := hi
    simp [List.getD, this]

end Pk
end Go.Proofs.YtcifgableeeooalDoor

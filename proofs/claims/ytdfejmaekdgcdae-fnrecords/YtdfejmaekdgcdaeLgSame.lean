/- Rows of texts that are the same. -/
import Derived.Test.YtdfejmaekdgcdaeGtSplit
import Derived.Deep.RegionHeld3
namespace Go.Proofs.Ytdfejmaekdgcdae
namespace Gt
open Go.ChangeShapes Go.WideShapes Go.ChangeAt Go.RowKit
open Pk (own_at own_ge own_below own_form new_below join_below lt_of cell_at)
set_option linter.unusedSimpArgs false
set_option linter.unusedVariables false

/-- A slice of texts. -/
def Txts (w : World) (v : Value) (l : List ByteArray) : Prop := ∃ a cap, v = .slice a l.length cap ∧ (l.length = 0 ∨ ∃ g, a = some ⟨g, 0, none⟩ ∧ g < w.heap.size ∧ ∀ i (h : i < l.length), w.cell? ⟨g, i, none⟩ = some (.string l[i]))

theorem own_txts {w : World} {base : Nat} {v : Value} {l : List ByteArray} (h : w.ownsRow base 9 1 v l.length (tcells l)) : Txts w v l := by
  by_cases h0 : l.length = 0
  · obtain ⟨a, cap, hv, -⟩ := own_form h
    exact ⟨a, cap, hv, Or.inl h0⟩
  · obtain ⟨g, cap, hv⟩ := own_pos h (by omega)
    subst hv
    refine ⟨_, cap, rfl, Or.inr ⟨g, rfl, ?_, fun i hi => ?_⟩⟩
    · obtain ⟨g', cap', e, h1, h2, -⟩ := own_at h 0 (by omega)
      simp only [Value.slice.injEq, Option.some.injEq, Addr.mk.injEq] at e
      rw [e.1.1]
      exact h2
    · obtain ⟨g', cap', e, h1, h2, u, hu, hc⟩ := own_at h i hi
      simp only [Value.slice.injEq, Option.some.injEq, Addr.mk.injEq] at e
      rw [tcells_at l i hi] at hu
      rw [e.1.1, hc, ← Option.some.inj hu]

theorem Txts.on {w w1 : World} {v : Value} {l : List ByteArray} (h : Txts w v l) (L : Below w.heap.size w w1) : Txts w1 v l := by
  obtain ⟨a, cap, hv, h2⟩ := h
  refine ⟨a, cap, hv, ?_⟩
  rcases h2 with h2 | ⟨g, ha, hg, hc⟩
  · exact Or.inl h2
  · exact Or.inr ⟨g, ha, Nat.lt_of_lt_of_le hg L.size, fun i hi => by rw [L.cell (p := ⟨g, i, none⟩) hg]; exact hc i hi⟩

set_option maxRecDepth 100000 in
set_option maxHeartbeats 2000000 in
theorem sameTexts_same (v1 v2 : Value) (l : List ByteArray) (w : World) (hl : l.length ≤ 1048576) (T1 : Txts w v1 l) (T2 : Txts w v2 l) :
    Calls Try.prog 8 #[v1, v2] w fun e w' => e = .returned (.bool true) ∧ Below w.heap.size w w' := by
  obtain ⟨a1, c1, rfl, h1⟩ := T1
  obtain ⟨a2, c2, rfl, h2⟩ := T2
  have H1 : Hid (0 < l.length → ∃ g, a1 = some ⟨g, 0, none⟩ ∧ g < w.heap.size ∧ ∀ i (h : i < l.length), w.cell? ⟨g, i, none⟩ = some (.string l[i])) := fun h => h1.resolve_left (by omega)
  have H2 : Hid (0 < l.length → ∃ g, a2 = some ⟨g, 0, none⟩ ∧ g < w.heap.size ∧ ∀ i (h : i < l.length), w.cell? ⟨g, i, none⟩ = some (.string l[i])) := fun h => h2.resolve_left (by omega)
  clear h1 h2
  have hnn : ((l.length : Int) != (l.length : Int)) = false := by simp
  go_enter Try.func8, Try.ntmps8
  go_wp2
  go_loopw [5] (fun i wr => ∃ k : Nat, k ≤ l.length ∧ i = .int .i64 k ∧ Hid (Below w.heap.size w wr)) (fun i _ => l.length - (intOf i).toNat)
  case atStart => exact ⟨0, by omega, rfl, Below.refl _ _⟩
  case round =>
    obtain ⟨k, hk, rfl, L⟩ := hrel
    by_cases hlt : k < l.length
    · obtain ⟨g1, rfl, hg1, hc1⟩ := H1.out (by omega)
      obtain ⟨g2, rfl, hg2, hc2⟩ := H2.out (by omega)
      have r1 : wr.cell? ⟨g1, k, none⟩ = some (.string l[k]) := by rw [L.out.cell (p := ⟨g1, k, none⟩) hg1]; exact hc1 k hlt
      have r2 : wr.cell? ⟨g2, k, none⟩ = some (.string l[k]) := by rw [L.out.cell (p := ⟨g2, k, none⟩) hg2]; exact hc2 k hlt
      have hkI : (k : Int) < (l.length : Int) := by omega
      have hk0 : (0 : Int) ≤ (k : Int) := by omega
      clear hc1 hc2
      generalize l[k] = x at *
      go_wp2
      go_region
      all_goals
        go_wp2
        go_roundw
        case rel => exact ⟨k + 1, by omega, by go_num, by first | exact L.out.drew | exact L⟩
        case measure => simp [intOf]; omega
    · have hkI : ¬ (k : Int) < (l.length : Int) := by omega
      go_wp2
      go_ret
      exact ⟨rfl, L.out⟩

end Gt
end Go.Proofs.Ytdfejmaekdgcdae

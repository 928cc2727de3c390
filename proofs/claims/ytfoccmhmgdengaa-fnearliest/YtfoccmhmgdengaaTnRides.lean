/- Contracts of the laws' own helpers over rides: a copy of a slice of them, and two such slices held against each other. -/
import Derived.Test.YtfoccmhmgdengaaPkRow
namespace Go.Proofs.Ytfoccmhmgdengaa
namespace Rd
open Go.ChangeShapes Go.WideShapes Go.ChangeAt Go.RowKit
open Pk (new_below join_below cell_at heap_new frozen_at lt_of kept info_of own_form own_below)
set_option linter.unusedSimpArgs false
set_option linter.unusedVariables false

/-- One of rides. -/
structure Ri where
  tr : Int
  dy : Int
  fr : Int
  to : Int

/-- It as a value. -/
abbrev lgV (p : Ri) : Value := .agg #[.int .i64 p.tr, .int .i64 p.dy, .int .i64 p.fr, .int .i64 p.to]

/-- A slice of them. -/
def Rides (w : World) (a : Option Addr) (ps : List Ri) : Prop :=
  ps = [] ∨ ∃ b o, a = some ⟨b, o, none⟩ ∧ b < w.heap.size ∧ ∀ i (h : i < ps.length), w.cell? ⟨b, o + i * 4, none⟩ = some (.int .i64 ps[i].tr) ∧ w.cell? ⟨b, o + i * 4 + 1, none⟩ = some (.int .i64 ps[i].dy) ∧ w.cell? ⟨b, o + i * 4 + 2, none⟩ = some (.int .i64 ps[i].fr) ∧ w.cell? ⟨b, o + i * 4 + 3, none⟩ = some (.int .i64 ps[i].to)

theorem Rides.on {w w1 : World} {a : Option Addr} {ps : List Ri} (h : Rides w a ps) (L : Below w.heap.size w w1) : Rides w1 a ps := by
  rcases h with h | ⟨b, o, ha, hb, hc⟩
  · exact Or.inl h
  · exact Or.inr ⟨b, o, ha, Nat.lt_of_lt_of_le hb L.size, fun i hi => by rw [L.cell (p := ⟨b, o + i * 4, none⟩) hb, L.cell (p := ⟨b, o + i * 4 + 1, none⟩) hb, L.cell (p := ⟨b, o + i * 4 + 2, none⟩) hb, L.cell (p := ⟨b, o + i * 4 + 3, none⟩) hb]; exact hc i hi⟩

theorem Rides.at {w : World} {a : Option Addr} {ps : List Ri} (h : Rides w a ps) (k : Nat) (hk : k < ps.length) : ∃ b o, a = some ⟨b, o, none⟩ ∧ b < w.heap.size ∧ w.cell? ⟨b, o + k * 4, none⟩ = some (.int .i64 ps[k].tr) ∧ w.cell? ⟨b, o + k * 4 + 1, none⟩ = some (.int .i64 ps[k].dy) ∧ w.cell? ⟨b, o + k * 4 + 2, none⟩ = some (.int .i64 ps[k].fr) ∧ w.cell? ⟨b, o + k * 4 + 3, none⟩ = some (.int .i64 ps[k].to) := by
  rcases h with h | ⟨b, o, ha, hb, hc⟩
  · subst h; simp at hk
  · exact ⟨b, o, ha, hb, hc k hk⟩

theorem info_ride : (Try.prog.info? 37).map (fun i => (i.zero, i.size, i.bytes)) = some (some (lgV ⟨0, 0, 0, 0⟩), 4, 32) := by kernel_rfl

theorem eqRide_same (p : Ri) (w : World) :
    Calls Try.prog 45 #[lgV p, lgV p] w fun e w' => e = .returned (.bool true) ∧ Below w.heap.size w w' := by
  go_enter Try.func45, Try.ntmps45
  go_wp2
  go_ret
  exact ⟨rfl, join_below (new_below _ _) (new_below _ _)⟩

/-- The first k of block g are laid; all n can be written. -/
def Laidride (w : World) (g n k : Nat) (ps : List Ri) : Prop := (∀ j, j < n * 4 → (∃ v, w.cell? ⟨g, j, none⟩ = some v) ∧ w.frozen? ⟨g, j, none⟩ = false) ∧
  ∀ i (h : i < ps.length), i < k → w.cell? ⟨g, i * 4, none⟩ = some (.int .i64 ps[i].tr) ∧ w.cell? ⟨g, i * 4 + 1, none⟩ = some (.int .i64 ps[i].dy) ∧ w.cell? ⟨g, i * 4 + 2, none⟩ = some (.int .i64 ps[i].fr) ∧ w.cell? ⟨g, i * 4 + 3, none⟩ = some (.int .i64 ps[i].to)

theorem set_cell {w : World} {g i j : Nat} {u v : Value} (h : w.cell? ⟨g, i, none⟩ = some v) : (w.setCell ⟨g, j, none⟩ u).cell? ⟨g, i, none⟩ = some (if i = j then u else v) := by
  by_cases e : i = j
  · subst e
    rw [if_pos rfl]
    exact World.cell?_setCell_same _ _ _ h
  · rw [if_neg e, World.cell?_setCell_other _ _ _ _ (by intro h; apply e; simpa using h.symm)]
    exact h

/-- Its cells written. -/
def setride (w : World) (g j : Nat) (p : Ri) : World := (((w.setCell ⟨g, j, none⟩ (.int .i64 p.tr)).setCell ⟨g, j + 1, none⟩ (.int .i64 p.dy)).setCell ⟨g, j + 2, none⟩ (.int .i64 p.fr)).setCell ⟨g, j + 3, none⟩ (.int .i64 p.to)

theorem setride_cell {w : World} {g i j : Nat} {p : Ri} {v : Value} (h : w.cell? ⟨g, i, none⟩ = some v) : (setride w g j p).cell? ⟨g, i, none⟩ = some (if i = j + 3 then .int .i64 p.to else if i = j + 2 then .int .i64 p.fr else if i = j + 1 then .int .i64 p.dy else if i = j then .int .i64 p.tr else v) := set_cell (set_cell (set_cell (set_cell h)))

theorem Laidride.on {w w1 : World} {g n k : Nat} {ps : List Ri} (h : Laidride w g n k ps) {B : Nat} (L : Below B w w1) (hg : g < B) : Laidride w1 g n k ps := by
  refine ⟨fun j hj => ?_, fun i hi hk => ?_⟩
  · rw [L.cell (p := ⟨g, j, none⟩) hg, L.frozen (p := ⟨g, j, none⟩) hg]
    exact h.1 j hj
  · rw [L.cell (p := ⟨g, i * 4, none⟩) hg, L.cell (p := ⟨g, i * 4 + 1, none⟩) hg, L.cell (p := ⟨g, i * 4 + 2, none⟩) hg, L.cell (p := ⟨g, i * 4 + 3, none⟩) hg]
    exact h.2 i hi hk

theorem Laidride.step {w : World} {g n k : Nat} {ps : List Ri} (h : Laidride w g n k ps) (hk : k < n) (hkp : k < ps.length) : Laidride (setride w g (k * 4) ps[k]) g n (k + 1) ps := by
  refine ⟨fun j hj => ?_, fun i hi hik => ?_⟩
  · obtain ⟨⟨v, hv⟩, hf⟩ := h.1 j hj
    exact ⟨⟨_, setride_cell hv⟩, by unfold setride; rw [World.frozen?_setCell, World.frozen?_setCell, World.frozen?_setCell, World.frozen?_setCell]; exact hf⟩
  · by_cases e : i = k
    · subst e
      obtain ⟨⟨v0, h0⟩, -⟩ := h.1 (i * 4) (by omega)
      obtain ⟨⟨v1, h1⟩, -⟩ := h.1 (i * 4 + 1) (by omega)
      obtain ⟨⟨v2, h2⟩, -⟩ := h.1 (i * 4 + 2) (by omega)
      obtain ⟨⟨v3, h3⟩, -⟩ := h.1 (i * 4 + 3) (by omega)
      rw [setride_cell h0, setride_cell h1, setride_cell h2, setride_cell h3]
      simp
    · obtain ⟨h0, h1, h2, h3⟩ := h.2 i hi (by omega)
      rw [setride_cell h0, setride_cell h1, setride_cell h2, setride_cell h3]
      rw [if_neg (by omega), if_neg (by omega), if_neg (by omega), if_neg (by omega), if_neg (by omega), if_neg (by omega), if_neg (by omega), if_neg (by omega), if_neg (by omega), if_neg (by omega), if_neg (by omega), if_neg (by omega), if_neg (by omega), if_neg (by omega), if_neg (by omega), if_neg (by omega)]
      exact ⟨rfl, rfl, rfl, rfl⟩

theorem Laidride.all {w : World} {g : Nat} {ps : List Ri} (h : Laidride w g ps.length ps.length ps) (hg : g < w.heap.size) : Rides w (some ⟨g, 0, none⟩) ps :=
  Or.inr ⟨g, 0, rfl, hg, fun i hi => by rw [Nat.zero_add]; exact h.2 i hi hi⟩

set_option maxHeartbeats 1000000 in
theorem eqRideS_same (a b : Option Addr) (ps : List Ri) (c1 c2 : Nat) (w : World) (hz : ps.length ≤ 1048576) (I : Rides w a ps) (J : Rides w b ps) :
    Calls Try.prog 18 #[.slice a ps.length c1, .slice b ps.length c2] w fun e w' => e = .returned (.bool true) ∧ Below w.heap.size w w' := by
  go_enter Try.func18, Try.ntmps18
  go_wp2
  go_loopw [5] (fun i wr => ∃ (k : Nat), k ≤ ps.length ∧ i = .int .i64 k ∧ Below w.heap.size w wr) (fun i _ => ps.length - (intOf i).toNat)
  case atStart => exact ⟨0, by omega, rfl, Below.refl _ _⟩
  case round =>
    obtain ⟨k, hk, rfl, L⟩ := hrel
    by_cases hkn : k < ps.length
    · obtain ⟨x, o, rfl, hx, hx0, hx1, hx2, hx3⟩ := (I.on L).at k hkn
      obtain ⟨y, u, rfl, hy, hy0, hy1, hy2, hy3⟩ := (J.on L).at k hkn
      generalize ps[k] = p at *
      have HE : Hid (∀ w, _) := fun w => eqRide_same p w
      go_wp2
      go_region_with (go_at_call 45; (with_reducible refine (HE.out _).mono ?_); rintro e w3 ⟨rfl, L3⟩)
      all_goals
        have L4 : Below w.heap.size w w3 := L.drew.trans (L3.mono L.size)
        go_wp2
        go_roundw
        case rel => exact ⟨k + 1, by omega, by go_num, L4⟩
        case measure => simp [intOf]; omega
    · go_wp2
      go_ret
      exact ⟨rfl, L⟩

end Rd
end Go.Proofs.Ytfoccmhmgdengaa

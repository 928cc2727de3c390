/- Contracts of the laws' own helpers over holds: a copy of a slice of them, and two such slices held against each other. -/
import Derived.Test.YtehmlnojjfeheaaGreatPkRow
namespace Go.Proofs.YtehmlnojjfeheaaGreat
namespace Se
open Go.ChangeShapes Go.WideShapes Go.ChangeAt Go.RowKit
open Pk (new_below join_below cell_at heap_new frozen_at lt_of kept info_of own_form own_below)
set_option linter.unusedSimpArgs false
set_option linter.unusedVariables false

/-- One of holds. -/
structure Hl where
  tr : Int
  dy : Int
  co : Int
  se : Int
  ba : Int
  be : Int
  od : Int

/-- It as a value. -/
abbrev lgV (p : Hl) : Value := .agg #[.int .i64 p.tr, .int .i64 p.dy, .int .i64 p.co, .int .i64 p.se, .int .i64 p.ba, .int .i64 p.be, .int .i64 p.od]

/-- A slice of them. -/
def Holds (w : World) (a : Option Addr) (ps : List Hl) : Prop :=
  ps = [] ∨ ∃ b o, a = some ⟨b, o, none⟩ ∧ b < w.heap.size ∧ ∀ i (h : i < ps.length), w.cell? ⟨b, o + i * 7, none⟩ = some (.int .i64 ps[i].tr) ∧ w.cell? ⟨b, o + i * 7 + 1, none⟩ = some (.int .i64 ps[i].dy) ∧ w.cell? ⟨b, o + i * 7 + 2, none⟩ = some (.int .i64 ps[i].co) ∧ w.cell? ⟨b, o + i * 7 + 3, none⟩ = some (.int .i64 ps[i].se) ∧ w.cell? ⟨b, o + i * 7 + 4, none⟩ = some (.int .i64 ps[i].ba) ∧ w.cell? ⟨b, o + i * 7 + 5, none⟩ = some (.int .i64 ps[i].be) ∧ w.cell? ⟨b, o + i * 7 + 6, none⟩ = some (.int .i64 ps[i].od)

theorem Holds.on {w w1 : World} {a : Option Addr} {ps : List Hl} (h : Holds w a ps) (L : Below w.heap.size w w1) : Holds w1 a ps := by
  rcases h with h | ⟨b, o, ha, hb, hc⟩
  · exact Or.inl h
  · exact Or.inr ⟨b, o, ha, Nat.lt_of_lt_of_le hb L.size, fun i hi => by rw [L.cell (p := ⟨b, o + i * 7, none⟩) hb, L.cell (p := ⟨b, o + i * 7 + 1, none⟩) hb, L.cell (p := ⟨b, o + i * 7 + 2, none⟩) hb, L.cell (p := ⟨b, o + i * 7 + 3, none⟩) hb, L.cell (p := ⟨b, o + i * 7 + 4, none⟩) hb, L.cell (p := ⟨b, o + i * 7 + 5, none⟩) hb, L.cell (p := ⟨b, o + i * 7 + 6, none⟩) hb]; exact hc i hi⟩

theorem Holds.at {w : World} {a : Option Addr} {ps : List Hl} (h : Holds w a ps) (k : Nat) (hk : k < ps.length) : ∃ b o, a = some ⟨b, o, none⟩ ∧ b < w.heap.size ∧ w.cell? ⟨b, o + k * 7, none⟩ = some (.int .i64 ps[k].tr) ∧ w.cell? ⟨b, o + k * 7 + 1, none⟩ = some (.int .i64 ps[k].dy) ∧ w.cell? ⟨b, o + k * 7 + 2, none⟩ = some (.int .i64 ps[k].co) ∧ w.cell? ⟨b, o + k * 7 + 3, none⟩ = some (.int .i64 ps[k].se) ∧ w.cell? ⟨b, o + k * 7 + 4, none⟩ = some (.int .i64 ps[k].ba) ∧ w.cell? ⟨b, o + k * 7 + 5, none⟩ = some (.int .i64 ps[k].be) ∧ w.cell? ⟨b, o + k * 7 + 6, none⟩ = some (.int .i64 ps[k].od) := by
  rcases h with h | ⟨b, o, ha, hb, hc⟩
  · subst h; simp at hk
  · exact ⟨b, o, ha, hb, hc k hk⟩

theorem info_hold : (Tryz.prog.info? 81).map (fun i => (i.zero, i.size, i.bytes)) = some (some (lgV ⟨0, 0, 0, 0, 0, 0, 0⟩), 7, 56) := by kernel_rfl

theorem toHold_val (p : Hl) (w : World) :
    Calls Tryz.prog 47 #[lgV p] w fun e w' => e = .returned (lgV p) ∧ Below w.heap.size w w' := by
  go_enter Tryz.func47, Tryz.ntmps47
  go_wp2
  refine bodyPost_ret (v := lgV p) (by simp [results, Tryz.results47, go_sem]) rfl ?_
  refine ⟨rfl, ?_⟩
  (repeat' (first | apply Below.setCell | apply Below.alloc | exact Below.refl _ _)) <;> first | (simp; done) | (simp; omega)

theorem eqHold_same (p : Hl) (w : World) :
    Calls Tryz.prog 60 #[lgV p, lgV p] w fun e w' => e = .returned (.bool true) ∧ Below w.heap.size w w' := by
  go_enter Tryz.func60, Tryz.ntmps60
  go_wp2
  go_ret
  exact ⟨rfl, join_below (new_below _ _) (new_below _ _)⟩

/-- The first k of block g are laid; all n can be written. -/
def Laidhold (w : World) (g n k : Nat) (ps : List Hl) : Prop := (∀ j, j < n * 7 → (∃ v, w.cell? ⟨g, j, none⟩ = some v) ∧ w.frozen? ⟨g, j, none⟩ = false) ∧
  ∀ i (h : i < ps.length), i < k → w.cell? ⟨g, i * 7, none⟩ = some (.int .i64 ps[i].tr) ∧ w.cell? ⟨g, i * 7 + 1, none⟩ = some (.int .i64 ps[i].dy) ∧ w.cell? ⟨g, i * 7 + 2, none⟩ = some (.int .i64 ps[i].co) ∧ w.cell? ⟨g, i * 7 + 3, none⟩ = some (.int .i64 ps[i].se) ∧ w.cell? ⟨g, i * 7 + 4, none⟩ = some (.int .i64 ps[i].ba) ∧ w.cell? ⟨g, i * 7 + 5, none⟩ = some (.int .i64 ps[i].be) ∧ w.cell? ⟨g, i * 7 + 6, none⟩ = some (.int .i64 ps[i].od)

theorem set_cell {w : World} {g i j : Nat} {u v : Value} (h : w.cell? ⟨g, i, none⟩ = some v) : (w.setCell ⟨g, j, none⟩ u).cell? ⟨g, i, none⟩ = some (if i = j then u else v) := by
  by_cases e : i = j
  · subst e
    rw [if_pos rfl]
    exact World.cell?_setCell_same _ _ _ h
  · rw [if_neg e, World.cell?_setCell_other _ _ _ _ (by intro h; apply e; simpa using h.symm)]
    exact h

/-- Its cells written. -/
def sethold (w : World) (g j : Nat) (p : Hl) : World := ((((((w.setCell ⟨g, j, none⟩ (.int .i64 p.tr)).setCell ⟨g, j + 1, none⟩ (.int .i64 p.dy)).setCell ⟨g, j + 2, none⟩ (.int .i64 p.co)).setCell ⟨g, j + 3, none⟩ (.int .i64 p.se)).setCell ⟨g, j + 4, none⟩ (.int .i64 p.ba)).setCell ⟨g, j + 5, none⟩ (.int .i64 p.be)).setCell ⟨g, j + 6, none⟩ (.int .i64 p.od)

theorem sethold_cell {w : World} {g i j : Nat} {p : Hl} {v : Value} (h : w.cell? ⟨g, i, none⟩ = some v) : (sethold w g j p).cell? ⟨g, i, none⟩ = some (if i = j + 6 then .int .i64 p.od else if i = j + 5 then .int .i64 p.be else if i = j + 4 then .int .i64 p.ba else if i = j + 3 then .int .i64 p.se else if i = j + 2 then .int .i64 p.co else if i = j + 1 then .int .i64 p.dy else if i = j then .int .i64 p.tr else v) := set_cell (set_cell (set_cell (set_cell (set_cell (set_cell (set_cell h))))))

theorem Laidhold.on {w w1 : World} {g n k : Nat} {ps : List Hl} (h : Laidhold w g n k ps) {B : Nat} (L : Below B w w1) (hg : g < B) : Laidhold w1 g n k ps := by
  refine ⟨fun j hj => ?_, fun i hi hk => ?_⟩
  · rw [L.cell (p := ⟨g, j, none⟩) hg, L.frozen (p := ⟨g, j, none⟩) hg]
    exact h.1 j hj
  · rw [L.cell (p := ⟨g, i * 7, none⟩) hg, L.cell (p := ⟨g, i * 7 + 1, none⟩) hg, L.cell (p := ⟨g, i * 7 + 2, none⟩) hg, L.cell (p := ⟨g, i * 7 + 3, none⟩) hg, L.cell (p := ⟨g, i * 7 + 4, none⟩) hg, L.cell (p := ⟨g, i * 7 + 5, none⟩) hg, L.cell (p := ⟨g, i * 7 + 6, none⟩) hg]
    exact h.2 i hi hk

theorem Laidhold.step {w : World} {g n k : Nat} {ps : List Hl} (h : Laidhold w g n k ps) (hk : k < n) (hkp : k < ps.length) : Laidhold (sethold w g (k * 7) ps[k]) g n (k + 1) ps := by
  refine ⟨fun j hj => ?_, fun i hi hik => ?_⟩
  · obtain ⟨⟨v, hv⟩, hf⟩ := h.1 j hj
    exact ⟨⟨_, sethold_cell hv⟩, by unfold sethold; rw [World.frozen?_setCell, World.frozen?_setCell, World.frozen?_setCell, World.frozen?_setCell, World.frozen?_setCell, World.frozen?_setCell, World.frozen?_setCell]; exact hf⟩
  · by_cases e : i = k
    · subst e
      obtain ⟨⟨v0, h0⟩, -⟩ := h.1 (i * 7) (by omega)
      obtain ⟨⟨v1, h1⟩, -⟩ := h.1 (i * 7 + 1) (by omega)
      obtain ⟨⟨v2, h2⟩, -⟩ := h.1 (i * 7 + 2) (by omega)
      obtain ⟨⟨v3, h3⟩, -⟩ := h.1 (i * 7 + 3) (by omega)
      obtain ⟨⟨v4, h4⟩, -⟩ := h.1 (i * 7 + 4) (by omega)
      obtain ⟨⟨v5, h5⟩, -⟩ := h.1 (i * 7 + 5) (by omega)
      obtain ⟨⟨v6, h6⟩, -⟩ := h.1 (i * 7 + 6) (by omega)
      rw [sethold_cell h0, sethold_cell h1, sethold_cell h2, sethold_cell h3, sethold_cell h4, sethold_cell h5, sethold_cell h6]
      simp
    · obtain ⟨h0, h1, h2, h3, h4, h5, h6⟩ := h.2 i hi (by omega)
      rw [sethold_cell h0, sethold_cell h1, sethold_cell h2, sethold_cell h3, sethold_cell h4, sethold_cell h5, sethold_cell h6]
      rw [if_neg (by omega), if_neg (by omega), if_neg (by omega), if_neg (by omega), if_neg (by omega), if_neg (by omega), if_neg (by omega), if_neg (by omega), if_neg (by omega), if_neg (by omega), if_neg (by omega), if_neg (by omega), if_neg (by omega), if_neg (by omega), if_neg (by omega), if_neg (by omega), if_neg (by omega), if_neg (by omega), if_neg (by omega), if_neg (by omega), if_neg (by omega), if_neg (by omega), if_neg (by omega), if_neg (by omega), if_neg (by omega), if_neg (by omega), if_neg (by omega), if_neg (by omega), if_neg (by omega), if_neg (by omega), if_neg (by omega), if_neg (by omega), if_neg (by omega), if_neg (by omega), if_neg (by omega), if_neg (by omega), if_neg (by omega), if_neg (by omega), if_neg (by omega), if_neg (by omega), if_neg (by omega), if_neg (by omega), if_neg (by omega), if_neg (by omega), if_neg (by omega), if_neg (by omega), if_neg (by omega), if_neg (by omega), if_neg (by omega)]
      exact ⟨rfl, rfl, rfl, rfl, rfl, rfl, rfl⟩

theorem Laidhold.all {w : World} {g : Nat} {ps : List Hl} (h : Laidhold w g ps.length ps.length ps) (hg : g < w.heap.size) : Holds w (some ⟨g, 0, none⟩) ps :=
  Or.inr ⟨g, 0, rfl, hg, fun i hi => by rw [Nat.zero_add]; exact h.2 i hi hi⟩

set_option maxHeartbeats 2000000 in
theorem toHoldS_val (a : Option Addr) (ps : List Hl) (cap : Nat) (w : World) (hz : ps.length ≤ 1048576) (I : Holds w a ps) :
    Calls Tryz.prog 22 #[.slice a ps.length cap] w fun e w' => e = .returned (.slice (some ⟨w.heap.size, 0, none⟩) ps.length ps.length) ∧ Below w.heap.size w w' ∧ Holds w' (some ⟨w.heap.size, 0, none⟩) ps ∧ w.heap.size < w'.heap.size ∧ Pk.Room w' w.heap.size (ps.length * 7) := by
  obtain ⟨i0, hi, hz0, hz1, hz2⟩ := info_of info_hold
  go_enter Tryz.func22, Tryz.ntmps22
  go_wp2_with (at_make; refine wpList_make_full _ rfl _ _ 32 rfl w.heap.size 81 i0 (lgV ⟨0, 0, 0, 0, 0, 0, 0⟩) 7 Tryz.underlying32 hi hz0 hz1 .i64 .i64 _ _ ps.length rfl rfl rfl rfl (by rw [hz2]; omega) (by unfold maxLen; omega) (Nat.le_refl _) ?_; intro w1 hown hgrow)
  have L1 : Below w.heap.size w w1 := (Below.refl _ _).grown hgrow (Nat.le_refl _) (fun k hk => by cases hk)
  obtain ⟨-, h | ⟨g, c, cur, he, hge, hcur, hnc, hcm, hcs, -⟩⟩ := hown
  · obtain ⟨h, -⟩ := h
    cases h
  obtain ⟨rfl, rfl⟩ : g = w.heap.size ∧ c = ps.length := by
    simp only [Value.slice.injEq, Option.some.injEq, Addr.mk.injEq] at he
    exact ⟨he.1.1.symm, he.2.2.symm⟩
  have F0 : Laidhold w1 w.heap.size ps.length 0 ps := by
    refine ⟨fun j hj => ⟨⟨cur[j], ?_⟩, frozen_at hcur j⟩, fun i h hk => by omega⟩
    rw [cell_at hcur j]
    exact Array.getElem?_eq_getElem (by omega)
  have hl1 : w.heap.size < w1.heap.size := lt_of hcur
  clear he hge hcur hnc hcm hcs hgrow
  go_wp2
  go_loopw [4] (fun i wr => ∃ k : Nat, k ≤ ps.length ∧ i = .int .i64 k ∧ Below w.heap.size w wr ∧ w.heap.size < wr.heap.size ∧ Hid (Laidhold wr w.heap.size ps.length k ps)) (fun i _ => ps.length - (intOf i).toNat)
  case atStart => exact ⟨0, by omega, rfl, L1, hl1, F0⟩
  case round =>
    obtain ⟨k, hk, rfl, LR, hl, F⟩ := hrel
    by_cases hkn : k < ps.length
    · obtain ⟨b, o, rfl, hlt, hc0, hc1, hc2, hc3, hc4, hc5, hc6⟩ := (I.on LR).at k hkn
      go_wp2_with fail
      refine (toHold_val ps[k] _).mono ?_
      rintro e w2 ⟨rfl, L2⟩
      have L3 := LR.trans (L2.mono LR.size)
      have hl3 := Nat.lt_of_lt_of_le hl L2.size
      obtain ⟨⟨v0, f0⟩, z0⟩ := F.out.1 (k * 7) (by omega)
      obtain ⟨⟨v1, f1⟩, z1⟩ := F.out.1 (k * 7 + 1) (by omega)
      obtain ⟨⟨v2, f2⟩, z2⟩ := F.out.1 (k * 7 + 2) (by omega)
      obtain ⟨⟨v3, f3⟩, z3⟩ := F.out.1 (k * 7 + 3) (by omega)
      obtain ⟨⟨v4, f4⟩, z4⟩ := F.out.1 (k * 7 + 4) (by omega)
      obtain ⟨⟨v5, f5⟩, z5⟩ := F.out.1 (k * 7 + 5) (by omega)
      obtain ⟨⟨v6, f6⟩, z6⟩ := F.out.1 (k * 7 + 6) (by omega)
      rw [← L2.cell hl] at f0 f1 f2 f3 f4 f5 f6
      rw [← L2.frozen hl] at z0 z1 z2 z3 z4 z5 z6
      have FS : Hid (Laidhold (sethold w2 w.heap.size (k * 7) ps[k]) w.heap.size ps.length (k + 1) ps) := (F.out.on L2 hl).step hkn hkn
      have LS : Below w.heap.size w (sethold w2 w.heap.size (k * 7) ps[k]) := ((((((L3.setCell (Nat.le_refl _) _).setCell (Nat.le_refl _) _).setCell (Nat.le_refl _) _).setCell (Nat.le_refl _) _).setCell (Nat.le_refl _) _).setCell (Nat.le_refl _) _).setCell (Nat.le_refl _) _
      have hls : w.heap.size < (sethold w2 w.heap.size (k * 7) ps[k]).heap.size := by unfold sethold; rw [World.size_setCell, World.size_setCell, World.size_setCell, World.size_setCell, World.size_setCell, World.size_setCell, World.size_setCell]; exact hl3
      clear F
      generalize ps[k] = p at *
      unfold sethold at FS LS hls
      go_wp2
      go_roundw
      case rel => exact ⟨k + 1, by omega, by go_num, LS, hls, FS⟩
      case measure => simp [intOf]; omega
    · obtain rfl : k = ps.length := by omega
      go_wp2
      go_ret
      exact ⟨rfl, LR, F.out.all hl, hl, F.out.1⟩

set_option maxHeartbeats 1000000 in
theorem eqHoldS_same (a b : Option Addr) (ps : List Hl) (c1 c2 : Nat) (w : World) (hz : ps.length ≤ 1048576) (I : Holds w a ps) (J : Holds w b ps) :
    Calls Tryz.prog 29 #[.slice a ps.length c1, .slice b ps.length c2] w fun e w' => e = .returned (.bool true) ∧ Below w.heap.size w w' := by
  go_enter Tryz.func29, Tryz.ntmps29
  go_wp2
  go_loopw [5] (fun i wr => ∃ (k : Nat), k ≤ ps.length ∧ i = .int .i64 k ∧ Below w.heap.size w wr) (fun i _ => ps.length - (intOf i).toNat)
  case atStart => exact ⟨0, by omega, rfl, Below.refl _ _⟩
  case round =>
    obtain ⟨k, hk, rfl, L⟩ := hrel
    by_cases hkn : k < ps.length
    · obtain ⟨x, o, rfl, hx, hx0, hx1, hx2, hx3, hx4, hx5, hx6⟩ := (I.on L).at k hkn
      obtain ⟨y, u, rfl, hy, hy0, hy1, hy2, hy3, hy4, hy5, hy6⟩ := (J.on L).at k hkn
      generalize ps[k] = p at *
      have HE : Hid (∀ w, _) := fun w => eqHold_same p w
      go_wp2
      go_region_with (go_at_call 60; (with_reducible refine (HE.out _).mono ?_); rintro e w3 ⟨rfl, L3⟩)
      all_goals
        have L4 : Below w.heap.size w w3 := L.drew.trans (L3.mono L.size)
        go_wp2
        go_roundw
        case rel => exact ⟨k + 1, by omega, by go_num, L4⟩
        case measure => simp [intOf]; omega
    · go_wp2
      go_ret
      exact ⟨rfl, L⟩

end Se
end Go.Proofs.YtehmlnojjfeheaaGreat

/- Contracts of the laws' own helpers over stops: a copy of a slice of them, and two such slices held against each other. -/
import Derived.Test.YtfoccmhmgdengaaPkRow
namespace Go.Proofs.Ytfoccmhmgdengaa
namespace Tn
open Go.ChangeShapes Go.WideShapes Go.ChangeAt Go.RowKit
open Pk (new_below join_below cell_at heap_new frozen_at lt_of kept info_of own_form own_below)
set_option linter.unusedSimpArgs false
set_option linter.unusedVariables false

/-- One of stops. -/
structure St where
  st : Int
  ar : Int
  dp : Int

/-- It as a value. -/
abbrev lgV (p : St) : Value := .agg #[.int .i64 p.st, .int .i64 p.ar, .int .i64 p.dp]

/-- A slice of them. -/
def Stops (w : World) (a : Option Addr) (ps : List St) : Prop :=
  ps = [] ∨ ∃ b o, a = some ⟨b, o, none⟩ ∧ b < w.heap.size ∧ ∀ i (h : i < ps.length), w.cell? ⟨b, o + i * 3, none⟩ = some (.int .i64 ps[i].st) ∧ w.cell? ⟨b, o + i * 3 + 1, none⟩ = some (.int .i64 ps[i].ar) ∧ w.cell? ⟨b, o + i * 3 + 2, none⟩ = some (.int .i64 ps[i].dp)

theorem Stops.on {w w1 : World} {a : Option Addr} {ps : List St} (h : Stops w a ps) (L : Below w.heap.size w w1) : Stops w1 a ps := by
  rcases h with h | ⟨b, o, ha, hb, hc⟩
  · exact Or.inl h
  · exact Or.inr ⟨b, o, ha, Nat.lt_of_lt_of_le hb L.size, fun i hi => by rw [L.cell (p := ⟨b, o + i * 3, none⟩) hb, L.cell (p := ⟨b, o + i * 3 + 1, none⟩) hb, L.cell (p := ⟨b, o + i * 3 + 2, none⟩) hb]; exact hc i hi⟩

theorem Stops.at {w : World} {a : Option Addr} {ps : List St} (h : Stops w a ps) (k : Nat) (hk : k < ps.length) : ∃ b o, a = some ⟨b, o, none⟩ ∧ b < w.heap.size ∧ w.cell? ⟨b, o + k * 3, none⟩ = some (.int .i64 ps[k].st) ∧ w.cell? ⟨b, o + k * 3 + 1, none⟩ = some (.int .i64 ps[k].ar) ∧ w.cell? ⟨b, o + k * 3 + 2, none⟩ = some (.int .i64 ps[k].dp) := by
  rcases h with h | ⟨b, o, ha, hb, hc⟩
  · subst h; simp at hk
  · exact ⟨b, o, ha, hb, hc k hk⟩

theorem info_stop : (Try.prog.info? 42).map (fun i => (i.zero, i.size, i.bytes)) = some (some (lgV ⟨0, 0, 0⟩), 3, 24) := by kernel_rfl

theorem toStop_val (p : St) (w : World) :
    Calls Try.prog 77 #[lgV p] w fun e w' => e = .returned (lgV p) ∧ Below w.heap.size w w' := by
  go_enter Try.func77, Try.ntmps77
  go_wp2
  refine bodyPost_ret (v := lgV p) (by simp [results, Try.results77, go_sem]) rfl ?_
  refine ⟨rfl, ?_⟩
  (repeat' (first | apply Below.setCell | apply Below.alloc | exact Below.refl _ _)) <;> first | (simp; done) | (simp; omega)

theorem eqStop_same (p : St) (w : World) :
    Calls Try.prog 78 #[lgV p, lgV p] w fun e w' => e = .returned (.bool true) ∧ Below w.heap.size w w' := by
  go_enter Try.func78, Try.ntmps78
  go_wp2
  go_ret
  exact ⟨rfl, join_below (new_below _ _) (new_below _ _)⟩

/-- The first k of block g are laid; all n can be written. -/
def Laidstop (w : World) (g n k : Nat) (ps : List St) : Prop := (∀ j, j < n * 3 → (∃ v, w.cell? ⟨g, j, none⟩ = some v) ∧ w.frozen? ⟨g, j, none⟩ = false) ∧
  ∀ i (h : i < ps.length), i < k → w.cell? ⟨g, i * 3, none⟩ = some (.int .i64 ps[i].st) ∧ w.cell? ⟨g, i * 3 + 1, none⟩ = some (.int .i64 ps[i].ar) ∧ w.cell? ⟨g, i * 3 + 2, none⟩ = some (.int .i64 ps[i].dp)

theorem set_cell {w : World} {g i j : Nat} {u v : Value} (h : w.cell? ⟨g, i, none⟩ = some v) : (w.setCell ⟨g, j, none⟩ u).cell? ⟨g, i, none⟩ = some (if i = j then u else v) := by
  by_cases e : i = j
  · subst e
    rw [if_pos rfl]
    exact World.cell?_setCell_same _ _ _ h
  · rw [if_neg e, World.cell?_setCell_other _ _ _ _ (by intro h; apply e; simpa using h.symm)]
    exact h

/-- Its cells written. -/
def setstop (w : World) (g j : Nat) (p : St) : World := ((w.setCell ⟨g, j, none⟩ (.int .i64 p.st)).setCell ⟨g, j + 1, none⟩ (.int .i64 p.ar)).setCell ⟨g, j + 2, none⟩ (.int .i64 p.dp)

theorem setstop_cell {w : World} {g i j : Nat} {p : St} {v : Value} (h : w.cell? ⟨g, i, none⟩ = some v) : (setstop w g j p).cell? ⟨g, i, none⟩ = some (if i = j + 2 then .int .i64 p.dp else if i = j + 1 then .int .i64 p.ar else if i = j then .int .i64 p.st else v) := set_cell (set_cell (set_cell h))

theorem Laidstop.on {w w1 : World} {g n k : Nat} {ps : List St} (h : Laidstop w g n k ps) {B : Nat} (L : Below B w w1) (hg : g < B) : Laidstop w1 g n k ps := by
  refine ⟨fun j hj => ?_, fun i hi hk => ?_⟩
  · rw [L.cell (p := ⟨g, j, none⟩) hg, L.frozen (p := ⟨g, j, none⟩) hg]
    exact h.1 j hj
  · rw [L.cell (p := ⟨g, i * 3, none⟩) hg, L.cell (p := ⟨g, i * 3 + 1, none⟩) hg, L.cell (p := ⟨g, i * 3 + 2, none⟩) hg]
    exact h.2 i hi hk

theorem Laidstop.step {w : World} {g n k : Nat} {ps : List St} (h : Laidstop w g n k ps) (hk : k < n) (hkp : k < ps.length) : Laidstop (setstop w g (k * 3) ps[k]) g n (k + 1) ps := by
  refine ⟨fun j hj => ?_, fun i hi hik => ?_⟩
  · obtain ⟨⟨v, hv⟩, hf⟩ := h.1 j hj
    exact ⟨⟨_, setstop_cell hv⟩, by unfold setstop; rw [World.frozen?_setCell, World.frozen?_setCell, World.frozen?_setCell]; exact hf⟩
  · by_cases e : i = k
    · subst e
      obtain ⟨⟨v0, h0⟩, -⟩ := h.1 (i * 3) (by omega)
      obtain ⟨⟨v1, h1⟩, -⟩ := h.1 (i * 3 + 1) (by omega)
      obtain ⟨⟨v2, h2⟩, -⟩ := h.1 (i * 3 + 2) (by omega)
      rw [setstop_cell h0, setstop_cell h1, setstop_cell h2]
      simp
    · obtain ⟨h0, h1, h2⟩ := h.2 i hi (by omega)
      rw [setstop_cell h0, setstop_cell h1, setstop_cell h2]
      rw [if_neg (by omega), if_neg (by omega), if_neg (by omega), if_neg (by omega), if_neg (by omega), if_neg (by omega), if_neg (by omega), if_neg (by omega), if_neg (by omega)]
      exact ⟨rfl, rfl, rfl⟩

theorem Laidstop.all {w : World} {g : Nat} {ps : List St} (h : Laidstop w g ps.length ps.length ps) (hg : g < w.heap.size) : Stops w (some ⟨g, 0, none⟩) ps :=
  Or.inr ⟨g, 0, rfl, hg, fun i hi => by rw [Nat.zero_add]; exact h.2 i hi hi⟩

set_option maxHeartbeats 2000000 in
theorem toStopS_val (a : Option Addr) (ps : List St) (cap : Nat) (w : World) (hz : ps.length ≤ 1048576) (I : Stops w a ps) :
    Calls Try.prog 66 #[.slice a ps.length cap] w fun e w' => e = .returned (.slice (some ⟨w.heap.size, 0, none⟩) ps.length ps.length) ∧ Below w.heap.size w w' ∧ Stops w' (some ⟨w.heap.size, 0, none⟩) ps ∧ w.heap.size < w'.heap.size ∧ Pk.Room w' w.heap.size (ps.length * 3) := by
  obtain ⟨i0, hi, hz0, hz1, hz2⟩ := info_of info_stop
  go_enter Try.func66, Try.ntmps66
  go_wp2_with (at_make; refine wpList_make_full _ rfl _ _ 31 rfl w.heap.size 42 i0 (lgV ⟨0, 0, 0⟩) 3 Try.underlying31 hi hz0 hz1 .i64 .i64 _ _ ps.length rfl rfl rfl rfl (by rw [hz2]; omega) (by unfold maxLen; omega) (Nat.le_refl _) ?_; intro w1 hown hgrow)
  have L1 : Below w.heap.size w w1 := (Below.refl _ _).grown hgrow (Nat.le_refl _) (fun k hk => by cases hk)
  obtain ⟨-, h | ⟨g, c, cur, he, hge, hcur, hnc, hcm, hcs, -⟩⟩ := hown
  · obtain ⟨h, -⟩ := h
    cases h
  obtain ⟨rfl, rfl⟩ : g = w.heap.size ∧ c = ps.length := by
    simp only [Value.slice.injEq, Option.some.injEq, Addr.mk.injEq] at he
    exact ⟨he.1.1.symm, he.2.2.symm⟩
  have F0 : Laidstop w1 w.heap.size ps.length 0 ps := by
    refine ⟨fun j hj => ⟨⟨cur[j], ?_⟩, frozen_at hcur j⟩, fun i h hk => by omega⟩
    rw [cell_at hcur j]
    exact Array.getElem?_eq_getElem (by omega)
  have hl1 : w.heap.size < w1.heap.size := lt_of hcur
  clear he hge hcur hnc hcm hcs hgrow
  go_wp2
  go_loopw [4] (fun i wr => ∃ k : Nat, k ≤ ps.length ∧ i = .int .i64 k ∧ Below w.heap.size w wr ∧ w.heap.size < wr.heap.size ∧ Hid (Laidstop wr w.heap.size ps.length k ps)) (fun i _ => ps.length - (intOf i).toNat)
  case atStart => exact ⟨0, by omega, rfl, L1, hl1, F0⟩
  case round =>
    obtain ⟨k, hk, rfl, LR, hl, F⟩ := hrel
    by_cases hkn : k < ps.length
    · obtain ⟨b, o, rfl, hlt, hc0, hc1, hc2⟩ := (I.on LR).at k hkn
      go_wp2_with fail
      refine (toStop_val ps[k] _).mono ?_
      rintro e w2 ⟨rfl, L2⟩
      have L3 := LR.trans (L2.mono LR.size)
      have hl3 := Nat.lt_of_lt_of_le hl L2.size
      obtain ⟨⟨v0, f0⟩, z0⟩ := F.out.1 (k * 3) (by omega)
      obtain ⟨⟨v1, f1⟩, z1⟩ := F.out.1 (k * 3 + 1) (by omega)
      obtain ⟨⟨v2, f2⟩, z2⟩ := F.out.1 (k * 3 + 2) (by omega)
      rw [← L2.cell hl] at f0 f1 f2
      rw [← L2.frozen hl] at z0 z1 z2
      have FS : Hid (Laidstop (setstop w2 w.heap.size (k * 3) ps[k]) w.heap.size ps.length (k + 1) ps) := (F.out.on L2 hl).step hkn hkn
      have LS : Below w.heap.size w (setstop w2 w.heap.size (k * 3) ps[k]) := ((L3.setCell (Nat.le_refl _) _).setCell (Nat.le_refl _) _).setCell (Nat.le_refl _) _
      have hls : w.heap.size < (setstop w2 w.heap.size (k * 3) ps[k]).heap.size := by unfold setstop; rw [World.size_setCell, World.size_setCell, World.size_setCell]; exact hl3
      clear F
      generalize ps[k] = p at *
      unfold setstop at FS LS hls
      go_wp2
      go_roundw
      case rel => exact ⟨k + 1, by omega, by go_num, LS, hls, FS⟩
      case measure => simp [intOf]; omega
    · obtain rfl : k = ps.length := by omega
      go_wp2
      go_ret
      exact ⟨rfl, LR, F.out.all hl, hl, F.out.1⟩

set_option maxHeartbeats 1000000 in
theorem eqStopS_same (a b : Option Addr) (ps : List St) (c1 c2 : Nat) (w : World) (hz : ps.length ≤ 1048576) (I : Stops w a ps) (J : Stops w b ps) :
    Calls Try.prog 67 #[.slice a ps.length c1, .slice b ps.length c2] w fun e w' => e = .returned (.bool true) ∧ Below w.heap.size w w' := by
  go_enter Try.func67, Try.ntmps67
  go_wp2
  go_loopw [5] (fun i wr => ∃ (k : Nat), k ≤ ps.length ∧ i = .int .i64 k ∧ Below w.heap.size w wr) (fun i _ => ps.length - (intOf i).toNat)
  case atStart => exact ⟨0, by omega, rfl, Below.refl _ _⟩
  case round =>
    obtain ⟨k, hk, rfl, L⟩ := hrel
    by_cases hkn : k < ps.length
    · obtain ⟨x, o, rfl, hx, hx0, hx1, hx2⟩ := (I.on L).at k hkn
      obtain ⟨y, u, rfl, hy, hy0, hy1, hy2⟩ := (J.on L).at k hkn
      generalize ps[k] = p at *
      have HE : Hid (∀ w, _) := fun w => eqStop_same p w
      go_wp2
      go_region_with (go_at_call 78; (with_reducible refine (HE.out _).mono ?_); rintro e w3 ⟨rfl, L3⟩)
      all_goals
        have L4 : Below w.heap.size w w3 := L.drew.trans (L3.mono L.size)
        go_wp2
        go_roundw
        case rel => exact ⟨k + 1, by omega, by go_num, L4⟩
        case measure => simp [intOf]; omega
    · go_wp2
      go_ret
      exact ⟨rfl, L⟩

end Tn
end Go.Proofs.Ytfoccmhmgdengaa

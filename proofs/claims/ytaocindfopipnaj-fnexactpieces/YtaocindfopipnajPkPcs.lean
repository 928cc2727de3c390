/- Contracts of the laws' own helpers over pieces: a copy of a slice of them, and two such slices held against each other. -/
import Derived.Test.YtaocindfopipnajPkWhole
namespace Go.Proofs.Ytaocindfopipnaj
namespace Pk
open Go.ChangeShapes Go.WideShapes Go.ChangeAt Go.RowKit
open Math (Pc)
set_option linter.unusedSimpArgs false
set_option linter.unusedVariables false

theorem info_pc : (Try.prog.info? 38).map (fun i => (i.zero, i.size, i.bytes)) = some (some (pcV 0 0 0), 3, 24) := by kernel_rfl

theorem toPiece_val (x n d : Int) (w : World) :
    Calls Try.prog 25 #[pcV x n d] w fun e w' => e = .returned (pcV x n d) ∧ Below w.heap.size w w' := by
  go_enter Try.func25, Try.ntmps25
  go_wp2
  refine bodyPost_ret (v := pcV x n d) (by simp [results, Try.results25, go_sem]) rfl ?_
  refine ⟨rfl, ?_⟩
  first
    | exact (((new_below w _).alloc (by simp) _).alloc (by simp; omega) _)
    | (repeat' (first | apply Below.setCell | apply Below.alloc | exact Below.refl _ _)) <;> simp

theorem eqPiece_same (x n d : Int) (w : World) :
    Calls Try.prog 23 #[pcV x n d, pcV x n d] w fun e w' => e = .returned (.bool true) ∧ Below w.heap.size w w' := by
  go_enter Try.func23, Try.ntmps23
  go_wp2
  go_ret
  exact ⟨rfl, join_below (new_below _ _) (new_below _ _)⟩

theorem szPieceS_yes (a : Option Addr) (n cap : Nat) (w : World) (h : n ≤ 1048576) :
    Calls Try.prog 12 #[.slice a n cap, .int .i64 1048576] w fun e w' => e = .returned (.int .i64 (1048576 - (n : Int))) ∧ w' = w := by
  have h0 : (0 : Int) ≤ 1048576 - (n : Int) := by omega
  have hd : decide (1048576 - (n : Int) < 0) = false := decide_eq_false (by omega)
  go_enter Try.func12, Try.ntmps12
  go_wp2
  go_ret
  exact ⟨rfl, rfl⟩

theorem szPieceS_no (a : Option Addr) (n cap : Nat) (w : World) (hn : n ≤ maxLen) (h : ¬ n ≤ 1048576) :
    Calls Try.prog 12 #[.slice a n cap, .int .i64 1048576] w fun e w' => e = .returned (.int .i64 (-1)) ∧ w' = w := by
  unfold maxLen at hn
  have h0 : 1048576 - (n : Int) < 0 := by omega
  have hd : decide (1048576 - (n : Int) < 0) = true := decide_eq_true (by omega)
  clear h
  go_enter Try.func12, Try.ntmps12
  go_wp2
  go_ret
  exact ⟨rfl, rfl⟩

/-- The first k pieces of block g are laid; all n can be written. -/
def Laid3 (w : World) (g n k : Nat) (ps : List Pc) : Prop := (∀ j, j < n * 3 → (∃ v, w.cell? ⟨g, j, none⟩ = some v) ∧ w.frozen? ⟨g, j, none⟩ = false) ∧
  ∀ i (h : i < ps.length), i < k → w.cell? ⟨g, i * 3, none⟩ = some (.int .i64 ps[i].x) ∧ w.cell? ⟨g, i * 3 + 1, none⟩ = some (.int .i64 ps[i].n) ∧ w.cell? ⟨g, i * 3 + 2, none⟩ = some (.int .i64 ps[i].d)

theorem set_cell {w : World} {g i j : Nat} {u v : Value} (h : w.cell? ⟨g, i, none⟩ = some v) : (w.setCell ⟨g, j, none⟩ u).cell? ⟨g, i, none⟩ = some (if i = j then u else v) := by
  by_cases e : i = j
  · subst e
    rw [if_pos rfl]
    exact World.cell?_setCell_same _ _ _ h
  · rw [if_neg e, World.cell?_setCell_other _ _ _ _ (by intro h; apply e; simpa using h.symm)]
    exact h

/-- Three cells written. -/
def set3 (w : World) (g j : Nat) (p : Pc) : World := ((w.setCell ⟨g, j, none⟩ (.int .i64 p.x)).setCell ⟨g, j + 1, none⟩ (.int .i64 p.n)).setCell ⟨g, j + 2, none⟩ (.int .i64 p.d)

theorem set3_cell {w : World} {g i j : Nat} {p : Pc} {v : Value} (h : w.cell? ⟨g, i, none⟩ = some v) : (set3 w g j p).cell? ⟨g, i, none⟩ = some (if i = j + 2 then .int .i64 p.d else if i = j + 1 then .int .i64 p.n else if i = j then .int .i64 p.x else v) := set_cell (set_cell (set_cell h))

theorem Laid3.on {w w1 : World} {g n k : Nat} {ps : List Pc} (h : Laid3 w g n k ps) {B : Nat} (L : Below B w w1) (hg : g < B) : Laid3 w1 g n k ps := by
  refine ⟨fun j hj => ?_, fun i hi hk => ?_⟩
  · rw [L.cell (p := ⟨g, j, none⟩) hg, L.frozen (p := ⟨g, j, none⟩) hg]
    exact h.1 j hj
  · rw [L.cell (p := ⟨g, i * 3, none⟩) hg, L.cell (p := ⟨g, i * 3 + 1, none⟩) hg, L.cell (p := ⟨g, i * 3 + 2, none⟩) hg]
    exact h.2 i hi hk

theorem Laid3.step {w : World} {g n k : Nat} {ps : List Pc} (h : Laid3 w g n k ps) (hk : k < n) (hkp : k < ps.length) : Laid3 (set3 w g (k * 3) ps[k]) g n (k + 1) ps := by
  refine ⟨fun j hj => ?_, fun i hi hik => ?_⟩
  · obtain ⟨⟨v, hv⟩, hf⟩ := h.1 j hj
    exact ⟨⟨_, set3_cell hv⟩, by unfold set3; rw [World.frozen?_setCell, World.frozen?_setCell, World.frozen?_setCell]; exact hf⟩
  · by_cases e : i = k
    · subst e
      obtain ⟨⟨v0, h0⟩, -⟩ := h.1 (i * 3) (by omega)
      obtain ⟨⟨v1, h1⟩, -⟩ := h.1 (i * 3 + 1) (by omega)
      obtain ⟨⟨v2, h2⟩, -⟩ := h.1 (i * 3 + 2) (by omega)
      rw [set3_cell h0, set3_cell h1, set3_cell h2]
      simp
    · obtain ⟨h0, h1, h2⟩ := h.2 i hi (by omega)
      rw [set3_cell h0, set3_cell h1, set3_cell h2]
      rw [if_neg (by omega), if_neg (by omega), if_neg (by omega), if_neg (by omega), if_neg (by omega), if_neg (by omega), if_neg (by omega), if_neg (by omega), if_neg (by omega)]
      exact ⟨rfl, rfl, rfl⟩

theorem Laid3.pcs {w : World} {g : Nat} {ps : List Pc} (h : Laid3 w g ps.length ps.length ps) (hg : g < w.heap.size) : Pcs w (some ⟨g, 0, none⟩) ps :=
  Or.inr ⟨g, 0, rfl, hg, fun i hi => by rw [Nat.zero_add]; exact h.2 i hi hi⟩

set_option maxHeartbeats 1000000 in
theorem toPieceS_val (a : Option Addr) (ps : List Pc) (cap : Nat) (w : World) (hz : ps.length ≤ 1048576) (I : Pcs w a ps) :
    Calls Try.prog 14 #[.slice a ps.length cap] w fun e w' => e = .returned (.slice (some ⟨w.heap.size, 0, none⟩) ps.length ps.length) ∧ Below w.heap.size w w' ∧ Pcs w' (some ⟨w.heap.size, 0, none⟩) ps := by
  obtain ⟨i0, hi, hz0, hz1, hz2⟩ := info_of info_pc
  go_enter Try.func14, Try.ntmps14
  go_wp2_with (at_make; refine wpList_make_full _ rfl _ _ 22 rfl w.heap.size 38 i0 (pcV 0 0 0) 3 Try.underlying22 hi hz0 hz1 .i64 .i64 _ _ ps.length rfl rfl rfl rfl (by rw [hz2]; omega) (by unfold maxLen; omega) (Nat.le_refl _) ?_; intro w1 hown hgrow)
  have L1 : Below w.heap.size w w1 := (Below.refl _ _).grown hgrow (Nat.le_refl _) (fun k hk => by cases hk)
  obtain ⟨-, h | ⟨g, c, cur, he, hge, hcur, hnc, hcm, hcs, -⟩⟩ := hown
  · obtain ⟨h, -⟩ := h
    cases h
  obtain ⟨rfl, rfl⟩ : g = w.heap.size ∧ c = ps.length := by
    simp only [Value.slice.injEq, Option.some.injEq, Addr.mk.injEq] at he
    exact ⟨he.1.1.symm, he.2.2.symm⟩
  have F0 : Laid3 w1 w.heap.size ps.length 0 ps := by
    refine ⟨fun j hj => ⟨⟨cur[j], ?_⟩, frozen_at hcur j⟩, fun i h hk => by omega⟩
    rw [cell_at hcur j]
    exact Array.getElem?_eq_getElem (by omega)
  have hl1 : w.heap.size < w1.heap.size := lt_of hcur
  clear he hge hcur hnc hcm hcs hgrow
  go_wp2
  go_loopw [4] (fun i wr => ∃ k : Nat, k ≤ ps.length ∧ i = .int .i64 k ∧ Below w.heap.size w wr ∧ w.heap.size < wr.heap.size ∧ Hid (Laid3 wr w.heap.size ps.length k ps)) (fun i _ => ps.length - (intOf i).toNat)
  case atStart => exact ⟨0, by omega, rfl, L1, hl1, F0⟩
  case round =>
    obtain ⟨k, hk, rfl, LR, hl, F⟩ := hrel
    by_cases hkn : k < ps.length
    · obtain ⟨b, o, rfl, hlt, hc0, hc1, hc2⟩ := (I.on LR).at k hkn
      go_wp2_with fail
      refine (toPiece_val ps[k].x ps[k].n ps[k].d _).mono ?_
      rintro e w2 ⟨rfl, L2⟩
      have L3 := LR.trans (L2.mono LR.size)
      have hl3 := Nat.lt_of_lt_of_le hl L2.size
      obtain ⟨⟨v0, f0⟩, z0⟩ := F.out.1 (k * 3) (by omega)
      obtain ⟨⟨v1, f1⟩, z1⟩ := F.out.1 (k * 3 + 1) (by omega)
      obtain ⟨⟨v2, f2⟩, z2⟩ := F.out.1 (k * 3 + 2) (by omega)
      rw [← L2.cell hl] at f0 f1 f2
      rw [← L2.frozen hl] at z0 z1 z2
      have FS : Hid (Laid3 (set3 w2 w.heap.size (k * 3) ps[k]) w.heap.size ps.length (k + 1) ps) := (F.out.on L2 hl).step hkn hkn
      have LS : Below w.heap.size w (set3 w2 w.heap.size (k * 3) ps[k]) := ((L3.setCell (Nat.le_refl _) _).setCell (Nat.le_refl _) _).setCell (Nat.le_refl _) _
      have hls : w.heap.size < (set3 w2 w.heap.size (k * 3) ps[k]).heap.size := by unfold set3; rw [World.size_setCell, World.size_setCell, World.size_setCell]; exact hl3
      clear F
      generalize ps[k] = p at *
      unfold set3 at FS LS hls
      go_wp2
      go_roundw
      case rel => exact ⟨k + 1, by omega, by go_num, LS, hls, FS⟩
      case measure => simp [intOf]; omega
    · obtain rfl : k = ps.length := by omega
      go_wp2
      go_ret
      exact ⟨rfl, LR, F.out.pcs hl⟩

set_option maxHeartbeats 1000000 in
theorem eqPieceS_same (a b : Option Addr) (ps : List Pc) (c1 c2 : Nat) (w : World) (hz : ps.length ≤ 1048576) (I : Pcs w a ps) (J : Pcs w b ps) :
    Calls Try.prog 9 #[.slice a ps.length c1, .slice b ps.length c2] w fun e w' => e = .returned (.bool true) ∧ Below w.heap.size w w' := by
  go_enter Try.func9, Try.ntmps9
  go_wp2
  go_loopw [5] (fun i wr => ∃ (k : Nat), k ≤ ps.length ∧ i = .int .i64 k ∧ Below w.heap.size w wr) (fun i _ => ps.length - (intOf i).toNat)
  case atStart => exact ⟨0, by omega, rfl, Below.refl _ _⟩
  case round =>
    obtain ⟨k, hk, rfl, L⟩ := hrel
    by_cases hkn : k < ps.length
    · obtain ⟨x, o, rfl, hx, hx0, hx1, hx2⟩ := (I.on L).at k hkn
      obtain ⟨y, u, rfl, hy, hy0, hy1, hy2⟩ := (J.on L).at k hkn
      generalize ps[k] = p at *
      have HE : Hid (∀ w, _) := fun w => eqPiece_same p.x p.n p.d w
      go_wp2
      go_region_with (go_at_call 23; (with_reducible refine (HE.out _).mono ?_); rintro e w3 ⟨rfl, L3⟩)
      all_goals
        have L4 : Below w.heap.size w w3 := L.drew.trans (L3.mono L.size)
        go_wp2
        go_roundw
        case rel => exact ⟨k + 1, by omega, by go_num, L4⟩
        case measure => simp [intOf]; omega
    · go_wp2
      go_ret
      exact ⟨rfl, L⟩

end Pk
end Go.Proofs.Ytaocindfopipnaj

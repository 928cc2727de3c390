/- Contracts of the laws' own helpers over replies: a copy of a slice of them, and two such slices held against each other. -/
import Derived.Test.YtehmlnojjfeheaaGreatPkRow
namespace Go.Proofs.YtehmlnojjfeheaaGreat
namespace Rp
open Go.ChangeShapes Go.WideShapes Go.ChangeAt Go.RowKit
open Pk (new_below join_below cell_at heap_new frozen_at lt_of kept info_of own_form own_below)
set_option linter.unusedSimpArgs false
set_option linter.unusedVariables false

/-- One of replies. -/
structure Rr where
  rq : Int
  sa : Int
  od : Int
  am : Int

/-- It as a value. -/
abbrev lgV (p : Rr) : Value := .agg #[.int .i64 p.rq, .int .i64 p.sa, .int .i64 p.od, .int .i64 p.am]

/-- A slice of them. -/
def Replys (w : World) (a : Option Addr) (ps : List Rr) : Prop :=
  ps = [] ∨ ∃ b o, a = some ⟨b, o, none⟩ ∧ b < w.heap.size ∧ ∀ i (h : i < ps.length), w.cell? ⟨b, o + i * 4, none⟩ = some (.int .i64 ps[i].rq) ∧ w.cell? ⟨b, o + i * 4 + 1, none⟩ = some (.int .i64 ps[i].sa) ∧ w.cell? ⟨b, o + i * 4 + 2, none⟩ = some (.int .i64 ps[i].od) ∧ w.cell? ⟨b, o + i * 4 + 3, none⟩ = some (.int .i64 ps[i].am)

theorem Replys.on {w w1 : World} {a : Option Addr} {ps : List Rr} (h : Replys w a ps) (L : Below w.heap.size w w1) : Replys w1 a ps := by
  rcases h with h | ⟨b, o, ha, hb, hc⟩
  · exact Or.inl h
  · exact Or.inr ⟨b, o, ha, Nat.lt_of_lt_of_le hb L.size, fun i hi => by rw [L.cell (p := ⟨b, o + i * 4, none⟩) hb, L.cell (p := ⟨b, o + i * 4 + 1, none⟩) hb, L.cell (p := ⟨b, o + i * 4 + 2, none⟩) hb, L.cell (p := ⟨b, o + i * 4 + 3, none⟩) hb]; exact hc i hi⟩

theorem Replys.at {w : World} {a : Option Addr} {ps : List Rr} (h : Replys w a ps) (k : Nat) (hk : k < ps.length) : ∃ b o, a = some ⟨b, o, none⟩ ∧ b < w.heap.size ∧ w.cell? ⟨b, o + k * 4, none⟩ = some (.int .i64 ps[k].rq) ∧ w.cell? ⟨b, o + k * 4 + 1, none⟩ = some (.int .i64 ps[k].sa) ∧ w.cell? ⟨b, o + k * 4 + 2, none⟩ = some (.int .i64 ps[k].od) ∧ w.cell? ⟨b, o + k * 4 + 3, none⟩ = some (.int .i64 ps[k].am) := by
  rcases h with h | ⟨b, o, ha, hb, hc⟩
  · subst h; simp at hk
  · exact ⟨b, o, ha, hb, hc k hk⟩

theorem info_reply : (Tryz.prog.info? 87).map (fun i => (i.zero, i.size, i.bytes)) = some (some (lgV ⟨0, 0, 0, 0⟩), 4, 32) := by kernel_rfl

theorem toReply_val (p : Rr) (w : World) :
    Calls Tryz.prog 49 #[lgV p] w fun e w' => e = .returned (lgV p) ∧ Below w.heap.size w w' := by
  go_enter Tryz.func49, Tryz.ntmps49
  go_wp2
  refine bodyPost_ret (v := lgV p) (by simp [results, Tryz.results49, go_sem]) rfl ?_
  refine ⟨rfl, ?_⟩
  (repeat' (first | apply Below.setCell | apply Below.alloc | exact Below.refl _ _)) <;> first | (simp; done) | (simp; omega)

theorem eqReply_same (p : Rr) (w : World) :
    Calls Tryz.prog 62 #[lgV p, lgV p] w fun e w' => e = .returned (.bool true) ∧ Below w.heap.size w w' := by
  go_enter Tryz.func62, Tryz.ntmps62
  go_wp2
  go_ret
  exact ⟨rfl, join_below (new_below _ _) (new_below _ _)⟩

/-- The first k of block g are laid; all n can be written. -/
def Laidreply (w : World) (g n k : Nat) (ps : List Rr) : Prop := (∀ j, j < n * 4 → (∃ v, w.cell? ⟨g, j, none⟩ = some v) ∧ w.frozen? ⟨g, j, none⟩ = false) ∧
  ∀ i (h : i < ps.length), i < k → w.cell? ⟨g, i * 4, none⟩ = some (.int .i64 ps[i].rq) ∧ w.cell? ⟨g, i * 4 + 1, none⟩ = some (.int .i64 ps[i].sa) ∧ w.cell? ⟨g, i * 4 + 2, none⟩ = some (.int .i64 ps[i].od) ∧ w.cell? ⟨g, i * 4 + 3, none⟩ = some (.int .i64 ps[i].am)

theorem set_cell {w : World} {g i j : Nat} {u v : Value} (h : w.cell? ⟨g, i, none⟩ = some v) : (w.setCell ⟨g, j, none⟩ u).cell? ⟨g, i, none⟩ = some (if i = j then u else v) := by
  by_cases e : i = j
  · subst e
    rw [if_pos rfl]
    exact World.cell?_setCell_same _ _ _ h
  · rw [if_neg e, World.cell?_setCell_other _ _ _ _ (by intro h; apply e; simpa using h.symm)]
    exact h

/-- Its cells written. -/
def setreply (w : World) (g j : Nat) (p : Rr) : World := (((w.setCell ⟨g, j, none⟩ (.int .i64 p.rq)).setCell ⟨g, j + 1, none⟩ (.int .i64 p.sa)).setCell ⟨g, j + 2, none⟩ (.int .i64 p.od)).setCell ⟨g, j + 3, none⟩ (.int .i64 p.am)

theorem setreply_cell {w : World} {g i j : Nat} {p : Rr} {v : Value} (h : w.cell? ⟨g, i, none⟩ = some v) : (setreply w g j p).cell? ⟨g, i, none⟩ = some (if i = j + 3 then .int .i64 p.am else if i = j + 2 then .int .i64 p.od else if i = j + 1 then .int .i64 p.sa else if i = j then .int .i64 p.rq else v) := set_cell (set_cell (set_cell (set_cell h)))

theorem Laidreply.on {w w1 : World} {g n k : Nat} {ps : List Rr} (h : Laidreply w g n k ps) {B : Nat} (L : Below B w w1) (hg : g < B) : Laidreply w1 g n k ps := by
  refine ⟨fun j hj => ?_, fun i hi hk => ?_⟩
  · rw [L.cell (p := ⟨g, j, none⟩) hg, L.frozen (p := ⟨g, j, none⟩) hg]
    exact h.1 j hj
  · rw [L.cell (p := ⟨g, i * 4, none⟩) hg, L.cell (p := ⟨g, i * 4 + 1, none⟩) hg, L.cell (p := ⟨g, i * 4 + 2, none⟩) hg, L.cell (p := ⟨g, i * 4 + 3, none⟩) hg]
    exact h.2 i hi hk

theorem Laidreply.step {w : World} {g n k : Nat} {ps : List Rr} (h : Laidreply w g n k ps) (hk : k < n) (hkp : k < ps.length) : Laidreply (setreply w g (k * 4) ps[k]) g n (k + 1) ps := by
  refine ⟨fun j hj => ?_, fun i hi hik => ?_⟩
  · obtain ⟨⟨v, hv⟩, hf⟩ := h.1 j hj
    exact ⟨⟨_, setreply_cell hv⟩, by unfold setreply; rw [World.frozen?_setCell, World.frozen?_setCell, World.frozen?_setCell, World.frozen?_setCell]; exact hf⟩
  · by_cases e : i = k
    · subst e
      obtain ⟨⟨v0, h0⟩, -⟩ := h.1 (i * 4) (by omega)
      obtain ⟨⟨v1, h1⟩, -⟩ := h.1 (i * 4 + 1) (by omega)
      obtain ⟨⟨v2, h2⟩, -⟩ := h.1 (i * 4 + 2) (by omega)
      obtain ⟨⟨v3, h3⟩, -⟩ := h.1 (i * 4 + 3) (by omega)
      rw [setreply_cell h0, setreply_cell h1, setreply_cell h2, setreply_cell h3]
      simp
    · obtain ⟨h0, h1, h2, h3⟩ := h.2 i hi (by omega)
      rw [setreply_cell h0, setreply_cell h1, setreply_cell h2, setreply_cell h3]
      rw [if_neg (by omega), if_neg (by omega), if_neg (by omega), if_neg (by omega), if_neg (by omega), if_neg (by omega), if_neg (by omega), if_neg (by omega), if_neg (by omega), if_neg (by omega), if_neg (by omega), if_neg (by omega), if_neg (by omega), if_neg (by omega), if_neg (by omega), if_neg (by omega)]
      exact ⟨rfl, rfl, rfl, rfl⟩

theorem Laidreply.all {w : World} {g : Nat} {ps : List Rr} (h : Laidreply w g ps.length ps.length ps) (hg : g < w.heap.size) : Replys w (some ⟨g, 0, none⟩) ps :=
  Or.inr ⟨g, 0, rfl, hg, fun i hi => by rw [Nat.zero_add]; exact h.2 i hi hi⟩

set_option maxHeartbeats 2000000 in
theorem toReplyS_val (a : Option Addr) (ps : List Rr) (cap : Nat) (w : World) (hz : ps.length ≤ 1048576) (I : Replys w a ps) :
    Calls Tryz.prog 24 #[.slice a ps.length cap] w fun e w' => e = .returned (.slice (some ⟨w.heap.size, 0, none⟩) ps.length ps.length) ∧ Below w.heap.size w w' ∧ Replys w' (some ⟨w.heap.size, 0, none⟩) ps ∧ w.heap.size < w'.heap.size ∧ Pk.Room w' w.heap.size (ps.length * 4) := by
  obtain ⟨i0, hi, hz0, hz1, hz2⟩ := info_of info_reply
  go_enter Tryz.func24, Tryz.ntmps24
  go_wp2_with (at_make; refine wpList_make_full _ rfl _ _ 34 rfl w.heap.size 87 i0 (lgV ⟨0, 0, 0, 0⟩) 4 Tryz.underlying34 hi hz0 hz1 .i64 .i64 _ _ ps.length rfl rfl rfl rfl (by rw [hz2]; omega) (by unfold maxLen; omega) (Nat.le_refl _) ?_; intro w1 hown hgrow)
  have L1 : Below w.heap.size w w1 := (Below.refl _ _).grown hgrow (Nat.le_refl _) (fun k hk => by cases hk)
  obtain ⟨-, h | ⟨g, c, cur, he, hge, hcur, hnc, hcm, hcs, -⟩⟩ := hown
  · obtain ⟨h, -⟩ := h
    cases h
  obtain ⟨rfl, rfl⟩ : g = w.heap.size ∧ c = ps.length := by
    simp only [Value.slice.injEq, Option.some.injEq, Addr.mk.injEq] at he
    exact ⟨he.1.1.symm, he.2.2.symm⟩
  have F0 : Laidreply w1 w.heap.size ps.length 0 ps := by
    refine ⟨fun j hj => ⟨⟨cur[j], ?_⟩, frozen_at hcur j⟩, fun i h hk => by omega⟩
    rw [cell_at hcur j]
    exact Array.getElem?_eq_getElem (by omega)
  have hl1 : w.heap.size < w1.heap.size := lt_of hcur
  clear he hge hcur hnc hcm hcs hgrow
  go_wp2
  go_loopw [4] (fun i wr => ∃ k : Nat, k ≤ ps.length ∧ i = .int .i64 k ∧ Below w.heap.size w wr ∧ w.heap.size < wr.heap.size ∧ Hid (Laidreply wr w.heap.size ps.length k ps)) (fun i _ => ps.length - (intOf i).toNat)
  case atStart => exact ⟨0, by omega, rfl, L1, hl1, F0⟩
  case round =>
    obtain ⟨k, hk, rfl, LR, hl, F⟩ := hrel
    by_cases hkn : k < ps.length
    · obtain ⟨b, o, rfl, hlt, hc0, hc1, hc2, hc3⟩ := (I.on LR).at k hkn
      go_wp2_with fail
      refine (toReply_val ps[k] _).mono ?_
      rintro e w2 ⟨rfl, L2⟩
      have L3 := LR.trans (L2.mono LR.size)
      have hl3 := Nat.lt_of_lt_of_le hl L2.size
      obtain ⟨⟨v0, f0⟩, z0⟩ := F.out.1 (k * 4) (by omega)
      obtain ⟨⟨v1, f1⟩, z1⟩ := F.out.1 (k * 4 + 1) (by omega)
      obtain ⟨⟨v2, f2⟩, z2⟩ := F.out.1 (k * 4 + 2) (by omega)
      obtain ⟨⟨v3, f3⟩, z3⟩ := F.out.1 (k * 4 + 3) (by omega)
      rw [← L2.cell hl] at f0 f1 f2 f3
      rw [← L2.frozen hl] at z0 z1 z2 z3
      have FS : Hid (Laidreply (setreply w2 w.heap.size (k * 4) ps[k]) w.heap.size ps.length (k + 1) ps) := (F.out.on L2 hl).step hkn hkn
      have LS : Below w.heap.size w (setreply w2 w.heap.size (k * 4) ps[k]) := (((L3.setCell (Nat.le_refl _) _).setCell (Nat.le_refl _) _).setCell (Nat.le_refl _) _).setCell (Nat.le_refl _) _
      have hls : w.heap.size < (setreply w2 w.heap.size (k * 4) ps[k]).heap.size := by unfold setreply; rw [World.size_setCell, World.size_setCell, World.size_setCell, World.size_setCell]; exact hl3
      clear F
      generalize ps[k] = p at *
      unfold setreply at FS LS hls
      go_wp2
      go_roundw
      case rel => exact ⟨k + 1, by omega, by go_num, LS, hls, FS⟩
      case measure => simp [intOf]; omega
    · obtain rfl : k = ps.length := by omega
      go_wp2
      go_ret
      exact ⟨rfl, LR, F.out.all hl, hl, F.out.1⟩

set_option maxHeartbeats 1000000 in
theorem eqReplyS_same (a b : Option Addr) (ps : List Rr) (c1 c2 : Nat) (w : World) (hz : ps.length ≤ 1048576) (I : Replys w a ps) (J : Replys w b ps) :
    Calls Tryz.prog 31 #[.slice a ps.length c1, .slice b ps.length c2] w fun e w' => e = .returned (.bool true) ∧ Below w.heap.size w w' := by
  go_enter Tryz.func31, Tryz.ntmps31
  go_wp2
  go_loopw [5] (fun i wr => ∃ (k : Nat), k ≤ ps.length ∧ i = .int .i64 k ∧ Below w.heap.size w wr) (fun i _ => ps.length - (intOf i).toNat)
  case atStart => exact ⟨0, by omega, rfl, Below.refl _ _⟩
  case round =>
    obtain ⟨k, hk, rfl, L⟩ := hrel
    by_cases hkn : k < ps.length
    · obtain ⟨x, o, rfl, hx, hx0, hx1, hx2, hx3⟩ := (I.on L).at k hkn
      obtain ⟨y, u, rfl, hy, hy0, hy1, hy2, hy3⟩ := (J.on L).at k hkn
      generalize ps[k] = p at *
      have HE : Hid (∀ w, _) := fun w => eqReply_same p w
      go_wp2
      go_region_with (go_at_call 62; (with_reducible refine (HE.out _).mono ?_); rintro e w3 ⟨rfl, L3⟩)
      all_goals
        have L4 : Below w.heap.size w w3 := L.drew.trans (L3.mono L.size)
        go_wp2
        go_roundw
        case rel => exact ⟨k + 1, by omega, by go_num, L4⟩
        case measure => simp [intOf]; omega
    · go_wp2
      go_ret
      exact ⟨rfl, L⟩

end Rp
end Go.Proofs.YtehmlnojjfeheaaGreat

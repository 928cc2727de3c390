/- Contracts of the laws' own helpers over lists of trains: their size, a copy, two of them held against each other. -/
import Derived.Test.YtfoccmhmgdengaaTnTrn
namespace Go.Proofs.Ytfoccmhmgdengaa
namespace Tn
open Go.ChangeShapes Go.WideShapes Go.ChangeAt Go.RowKit Go.Joins
open Pk (new_below join_below cell_at heap_new frozen_at lt_of kept heap_old info_of Room)
set_option linter.unusedSimpArgs false
set_option linter.unusedVariables false

/-- A train. -/
structure Tr where
  h : Hd
  l : List St

/-- The four numbers of a train at a place. -/
def Nums (w : World) (b o : Nat) (t : Hd) : Prop := w.cell? ⟨b, o, none⟩ = some (.int .i64 t.id) ∧ w.cell? ⟨b, o + 1, none⟩ = some (.int .i64 t.dy) ∧ w.cell? ⟨b, o + 2, none⟩ = some (.int .i64 t.co) ∧ w.cell? ⟨b, o + 3, none⟩ = some (.int .i64 t.se)

theorem Nums.on {w w1 : World} {b o : Nat} {t : Hd} (h : Nums w b o t) (hc : ∀ i, w1.cell? ⟨b, i, none⟩ = w.cell? ⟨b, i, none⟩) : Nums w1 b o t := by
  unfold Nums
  rw [hc, hc, hc, hc]
  exact h

/-- A list of trains that came in. -/
def TrainsA (w : World) (a : Option Addr) (ts : List Tr) : Prop :=
  ts = [] ∨ ∃ b o, a = some ⟨b, o, none⟩ ∧ b < w.heap.size ∧ ∀ i (h : i < ts.length), Nums w b (o + i * 5) ts[i].h ∧ ∃ ai ci, w.cell? ⟨b, o + i * 5 + 4, none⟩ = some (.slice ai ts[i].l.length ci) ∧ Stops w ai ts[i].l

/-- A list of trains, none of whose stops are nil. -/
def Trains (w : World) (a : Option Addr) (ts : List Tr) : Prop :=
  ts = [] ∨ ∃ b o, a = some ⟨b, o, none⟩ ∧ b < w.heap.size ∧ ∀ i (h : i < ts.length), Nums w b (o + i * 5) ts[i].h ∧ ∃ bi oi ci, w.cell? ⟨b, o + i * 5 + 4, none⟩ = some (.slice (some ⟨bi, oi, none⟩) ts[i].l.length ci) ∧ Stops w (some ⟨bi, oi, none⟩) ts[i].l

theorem TrainsA.on {w w1 : World} {a : Option Addr} {ts : List Tr} (h : TrainsA w a ts) (L : Below w.heap.size w w1) : TrainsA w1 a ts := by
  rcases h with h | ⟨b, o, ha, hb, hc⟩
  · exact Or.inl h
  · refine Or.inr ⟨b, o, ha, Nat.lt_of_lt_of_le hb L.size, fun i hi => ?_⟩
    obtain ⟨h1, ai, ci, h2, h3⟩ := hc i hi
    exact ⟨h1.on fun j => L.cell (p := ⟨b, j, none⟩) hb, ai, ci, by rw [L.cell (p := ⟨b, o + i * 5 + 4, none⟩) hb]; exact h2, h3.on L⟩

theorem Trains.on {w w1 : World} {a : Option Addr} {ts : List Tr} (h : Trains w a ts) (L : Below w.heap.size w w1) : Trains w1 a ts := by
  rcases h with h | ⟨b, o, ha, hb, hc⟩
  · exact Or.inl h
  · refine Or.inr ⟨b, o, ha, Nat.lt_of_lt_of_le hb L.size, fun i hi => ?_⟩
    obtain ⟨h1, bi, oi, ci, h2, h3⟩ := hc i hi
    exact ⟨h1.on fun j => L.cell (p := ⟨b, j, none⟩) hb, bi, oi, ci, by rw [L.cell (p := ⟨b, o + i * 5 + 4, none⟩) hb]; exact h2, h3.on L⟩

theorem TrainsA.at {w : World} {a : Option Addr} {ts : List Tr} (h : TrainsA w a ts) (k : Nat) (hk : k < ts.length) : ∃ b o ai ci, a = some ⟨b, o, none⟩ ∧ b < w.heap.size ∧ w.cell? ⟨b, o + k * 5, none⟩ = some (.int .i64 ts[k].h.id) ∧ w.cell? ⟨b, o + k * 5 + 1, none⟩ = some (.int .i64 ts[k].h.dy) ∧ w.cell? ⟨b, o + k * 5 + 2, none⟩ = some (.int .i64 ts[k].h.co) ∧ w.cell? ⟨b, o + k * 5 + 3, none⟩ = some (.int .i64 ts[k].h.se) ∧ w.cell? ⟨b, o + k * 5 + 4, none⟩ = some (.slice ai ts[k].l.length ci) ∧ Stops w ai ts[k].l := by
  rcases h with h | ⟨b, o, ha, hb, hc⟩
  · subst h; simp at hk
  · obtain ⟨⟨h0, h1, h2, h3⟩, ai, ci, h4, h5⟩ := hc k hk
    exact ⟨b, o, ai, ci, ha, hb, h0, h1, h2, h3, h4, h5⟩

theorem Trains.at {w : World} {a : Option Addr} {ts : List Tr} (h : Trains w a ts) (k : Nat) (hk : k < ts.length) : ∃ b o bi oi ci, a = some ⟨b, o, none⟩ ∧ b < w.heap.size ∧ w.cell? ⟨b, o + k * 5, none⟩ = some (.int .i64 ts[k].h.id) ∧ w.cell? ⟨b, o + k * 5 + 1, none⟩ = some (.int .i64 ts[k].h.dy) ∧ w.cell? ⟨b, o + k * 5 + 2, none⟩ = some (.int .i64 ts[k].h.co) ∧ w.cell? ⟨b, o + k * 5 + 3, none⟩ = some (.int .i64 ts[k].h.se) ∧ w.cell? ⟨b, o + k * 5 + 4, none⟩ = some (.slice (some ⟨bi, oi, none⟩) ts[k].l.length ci) ∧ Stops w (some ⟨bi, oi, none⟩) ts[k].l := by
  rcases h with h | ⟨b, o, ha, hb, hc⟩
  · subst h; simp at hk
  · obtain ⟨⟨h0, h1, h2, h3⟩, bi, oi, ci, h4, h5⟩ := hc k hk
    exact ⟨b, o, bi, oi, ci, ha, hb, h0, h1, h2, h3, h4, h5⟩

/-- How many stops the first k trains have. -/
def sumTo (ts : List Tr) (k : Nat) : Nat := ((ts.take k).map fun t => t.l.length).sum

theorem sumTo_step (ts : List Tr) (k : Nat) (h : k < ts.length) : sumTo ts (k + 1) = sumTo ts k + ts[k].l.length := by
  unfold sumTo
  rw [List.take_succ_eq_append_getElem h, List.map_append, List.sum_append]
  simp

theorem sumTo_mono (ts : List Tr) (k j : Nat) (h : k ≤ j) : sumTo ts k ≤ sumTo ts j := by
  induction j with
  | zero => obtain rfl : k = 0 := by omega
            exact Nat.le_refl _
  | succ j ih =>
    by_cases e : k = j + 1
    · subst e; exact Nat.le_refl _
    · have := ih (by omega)
      by_cases hj : j < ts.length
      · rw [sumTo_step ts j hj]; omega
      · have e : sumTo ts (j + 1) = sumTo ts j := by unfold sumTo; rw [List.take_of_length_le (by omega), List.take_of_length_le (by omega)]
        omega

/-- How much a list of trains holds. -/
def bulk (ts : List Tr) : Nat := ts.length + sumTo ts ts.length

theorem bulk_le {ts : List Tr} (h : bulk ts ≤ 1048576) (k : Nat) (hk : k < ts.length) : ts.length ≤ 1048576 ∧ ts[k].l.length ≤ 1048576 := by
  unfold bulk at h
  have := sumTo_step ts k hk
  have := sumTo_mono ts (k + 1) ts.length (by omega)
  omega

set_option maxHeartbeats 1000000 in
theorem szTrainS_yes (a : Option Addr) (ts : List Tr) (cap : Nat) (w : World) (h : bulk ts ≤ 1048576) (I : TrainsA w a ts) :
    Calls Try.prog 16 #[.slice a ts.length cap, .int .i64 1048576] w fun e w' => e = .returned (.int .i64 (1048576 - (bulk ts : Int))) ∧ Below w.heap.size w w' := by
  have hn : ts.length ≤ 1048576 := by unfold bulk at h; omega
  have hd : decide (1048576 - (ts.length : Int) < 0) = false := decide_eq_false (by omega)
  have HB : Hid (bulk ts = ts.length + sumTo ts ts.length) := rfl
  go_enter Try.func16, Try.ntmps16
  go_wp2
  go_loopw [1, 5] (fun z i wr => ∃ k y : Nat, k ≤ ts.length ∧ i = .int .i64 k ∧ y + ts.length ≤ 1048576 ∧ z = .int .i64 (1048576 - (ts.length : Int) - (y : Int)) ∧ Below w.heap.size w wr ∧ Hid (y = sumTo ts k)) (fun _ i _ => ts.length - (intOf i).toNat)
  case atStart => exact ⟨0, 0, by omega, rfl, by omega, by simp, Below.refl _ _, rfl⟩
  case round =>
    obtain ⟨k, y, hk, rfl, hy, rfl, L, H⟩ := hrel
    by_cases hkn : k < ts.length
    · obtain ⟨b, o, ai, ci, rfl, hlt, c0, c1, c2, c3, c4, J⟩ := (I.on L).at k hkn
      have hs := sumTo_step ts k hkn
      have hm := sumTo_mono ts (k + 1) ts.length (by omega)
      have hh := HB.out
      have hy' := H.out
      have hle : (ts[k].l.length : Int) ≤ 1048576 - (ts.length : Int) - (y : Int) := by omega
      have HS : Hid (y + ts[k].l.length = sumTo ts (k + 1)) := by show _ = _; omega
      have hd2 : decide (1048576 - (ts.length : Int) - (y : Int) - (ts[k].l.length : Int) < 0) = false := decide_eq_false (by omega)
      clear hs hm hh hy' H
      generalize ts[k].l.length = m at *
      go_wp2_with fail
      refine (szTrain_yes ts[k].h ai m ci _ _ (by omega) hle).mono ?_
      rintro e w1 ⟨rfl, L1⟩
      have L2 := join_below L L1
      go_wp2
      go_roundw
      case rel => exact ⟨k + 1, y + m, by omega, by go_num, by omega, by go_num, L2, HS⟩
      case measure => simp [intOf]; omega
    · obtain rfl : k = ts.length := by omega
      have HE : Hid ((bulk ts : Int) = (ts.length : Int) + (y : Int)) := by show _ = _; have := HB.out; have := H.out; omega
      clear H
      go_wp2
      go_ret
      exact ⟨Pk.ret_int (by rw [HE.out]; omega), L⟩

set_option maxHeartbeats 1000000 in
theorem szTrainS_no (a : Option Addr) (ts : List Tr) (cap : Nat) (w : World) (hn : ts.length ≤ maxLen) (hs : ∀ i (h : i < ts.length), ts[i].l.length ≤ maxLen) (h : ¬ bulk ts ≤ 1048576) (I : TrainsA w a ts) :
    Calls Try.prog 16 #[.slice a ts.length cap, .int .i64 1048576] w fun e w' => e = .returned (.int .i64 (-1)) ∧ Below w.heap.size w w' := by
  have HH : Hid (∀ i (h : i < ts.length), ts[i].l.length ≤ maxLen) := hs
  have HB : Hid (ts.length + sumTo ts ts.length > 1048576) := by unfold bulk at h; show _ > _; omega
  unfold maxLen at hn
  clear hs h
  by_cases h0 : ts.length ≤ 1048576
  · have hd : decide (1048576 - (ts.length : Int) < 0) = false := decide_eq_false (by omega)
    go_enter Try.func16, Try.ntmps16
    go_wp2
    go_loopw [1, 5] (fun z i wr => ∃ k y : Nat, k ≤ ts.length ∧ i = .int .i64 k ∧ y + ts.length ≤ 1048576 ∧ z = .int .i64 (1048576 - (ts.length : Int) - (y : Int)) ∧ Below w.heap.size w wr ∧ Hid (y = sumTo ts k)) (fun _ i _ => ts.length - (intOf i).toNat)
    case atStart => exact ⟨0, 0, by omega, rfl, by omega, by simp, Below.refl _ _, rfl⟩
    case round =>
      obtain ⟨k, y, hk, rfl, hy, rfl, L, H⟩ := hrel
      by_cases hkn : k < ts.length
      · obtain ⟨b, o, ai, ci, rfl, hlt, c0, c1, c2, c3, c4, J⟩ := (I.on L).at k hkn
        have HM : Hid (ts[k].l.length ≤ maxLen) := HH.out k hkn
        have HS : Hid (y + ts[k].l.length = sumTo ts (k + 1)) := by show _ = _; have := sumTo_step ts k hkn; have := H.out; omega
        generalize ts[k].l.length = m at *
        by_cases hle : (m : Int) ≤ 1048576 - (ts.length : Int) - (y : Int)
        · have hd2 : decide (1048576 - (ts.length : Int) - (y : Int) - (m : Int) < 0) = false := decide_eq_false (by omega)
          go_wp2_with fail
          refine (szTrain_yes ts[k].h ai m ci _ _ (by omega) hle).mono ?_
          rintro e w1 ⟨rfl, L1⟩
          have L2 := join_below L L1
          go_wp2
          go_roundw
          case rel => exact ⟨k + 1, y + m, by omega, by go_num, by omega, by go_num, L2, HS⟩
          case measure => simp [intOf]; omega
        · go_wp2_with fail
          refine (szTrain_no ts[k].h ai m ci _ _ (by omega) (by omega) HM.out (by omega)).mono ?_
          rintro e w1 ⟨rfl, L1⟩
          have L2 := join_below L L1
          go_wp2
          go_ret
          exact ⟨rfl, L2⟩
      · exfalso
        have := HB.out
        have := H.out
        obtain rfl : k = ts.length := by omega
        omega
  · have hd : decide (1048576 - (ts.length : Int) < 0) = true := decide_eq_true (by omega)
    go_enter Try.func16, Try.ntmps16
    go_wp2
    go_ret
    exact ⟨rfl, Below.refl _ _⟩

end Tn
end Go.Proofs.Ytfoccmhmgdengaa

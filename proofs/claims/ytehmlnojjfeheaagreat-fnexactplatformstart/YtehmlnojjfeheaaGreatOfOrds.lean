/- Contracts of the laws' own helpers over lists of orders: their size, a copy, two of them held against each other. -/
import Derived.Test.YtehmlnojjfeheaaGreatOfOrd
namespace Go.Proofs.YtehmlnojjfeheaaGreat
namespace Od
open Go.ChangeShapes Go.WideShapes Go.ChangeAt Go.RowKit Go.Joins
open Pk (new_below join_below cell_at heap_new frozen_at lt_of kept heap_old info_of Room)
open Rd (Ri Rides)
set_option linter.unusedSimpArgs false
set_option linter.unusedVariables false

/-- All of an order but its rides, at a place. -/
def Nums (w : World) (b o : Nat) (t : Hd) : Prop := w.cell? ⟨b, o, none⟩ = some (.int .i64 t.id) ∧ w.cell? ⟨b, o + 1, none⟩ = some (.int .i64 t.st) ∧ w.cell? ⟨b, o + 2, none⟩ = some (.string t.nm) ∧ w.cell? ⟨b, o + 3, none⟩ = some (.int .i64 t.cl) ∧ w.cell? ⟨b, o + 4, none⟩ = some (.int .i64 t.ca) ∧ w.cell? ⟨b, o + 6, none⟩ = some (.int .i64 t.pr) ∧ w.cell? ⟨b, o + 7, none⟩ = some (.int .i64 t.pa) ∧ w.cell? ⟨b, o + 8, none⟩ = some (.int .i64 t.fi)

theorem Nums.on {w w1 : World} {b o : Nat} {t : Hd} (h : Nums w b o t) (hc : ∀ i, w1.cell? ⟨b, i, none⟩ = w.cell? ⟨b, i, none⟩) : Nums w1 b o t := by
  unfold Nums
  rw [hc, hc, hc, hc, hc, hc, hc, hc]
  exact h

/-- A list of orders. -/
def Orders (w : World) (a : Option Addr) (ts : List Oo) : Prop :=
  ts = [] ∨ ∃ b o, a = some ⟨b, o, none⟩ ∧ b < w.heap.size ∧ ∀ i (h : i < ts.length), Nums w b (o + i * 9) ts[i].h ∧ ∃ ai ci, w.cell? ⟨b, o + i * 9 + 5, none⟩ = some (.slice ai ts[i].l.length ci) ∧ Rides w ai ts[i].l

theorem Orders.on {w w1 : World} {a : Option Addr} {ts : List Oo} (h : Orders w a ts) (L : Below w.heap.size w w1) : Orders w1 a ts := by
  rcases h with h | ⟨b, o, ha, hb, hc⟩
  · exact Or.inl h
  · refine Or.inr ⟨b, o, ha, Nat.lt_of_lt_of_le hb L.size, fun i hi => ?_⟩
    obtain ⟨h1, ai, ci, h2, h3⟩ := hc i hi
    exact ⟨h1.on fun j => L.cell (p := ⟨b, j, none⟩) hb, ai, ci, by rw [L.cell (p := ⟨b, o + i * 9 + 5, none⟩) hb]; exact h2, h3.on L⟩

theorem Orders.at {w : World} {a : Option Addr} {ts : List Oo} (h : Orders w a ts) (k : Nat) (hk : k < ts.length) : ∃ b o ai ci, a = some ⟨b, o, none⟩ ∧ b < w.heap.size ∧ w.cell? ⟨b, o + k * 9, none⟩ = some (.int .i64 ts[k].h.id) ∧ w.cell? ⟨b, o + k * 9 + 1, none⟩ = some (.int .i64 ts[k].h.st) ∧ w.cell? ⟨b, o + k * 9 + 2, none⟩ = some (.string ts[k].h.nm) ∧ w.cell? ⟨b, o + k * 9 + 3, none⟩ = some (.int .i64 ts[k].h.cl) ∧ w.cell? ⟨b, o + k * 9 + 4, none⟩ = some (.int .i64 ts[k].h.ca) ∧ w.cell? ⟨b, o + k * 9 + 6, none⟩ = some (.int .i64 ts[k].h.pr) ∧ w.cell? ⟨b, o + k * 9 + 7, none⟩ = some (.int .i64 ts[k].h.pa) ∧ w.cell? ⟨b, o + k * 9 + 8, none⟩ = some (.int .i64 ts[k].h.fi) ∧ w.cell? ⟨b, o + k * 9 + 5, none⟩ = some (.slice ai ts[k].l.length ci) ∧ Rides w ai ts[k].l := by
  rcases h with h | ⟨b, o, ha, hb, hc⟩
  · subst h; simp at hk
  · obtain ⟨⟨h0, h1, h2, h3, h4, h6, h7, h8⟩, ai, ci, h5, h9⟩ := hc k hk
    exact ⟨b, o, ai, ci, ha, hb, h0, h1, h2, h3, h4, h6, h7, h8, h5, h9⟩

/-- What an order holds. -/
def Oo.sz (t : Oo) : Nat := t.h.nm.size + t.l.length

/-- What the first k orders hold. -/
def sumTo (ts : List Oo) (k : Nat) : Nat := ((ts.take k).map Oo.sz).sum

theorem sumTo_step (ts : List Oo) (k : Nat) (h : k < ts.length) : sumTo ts (k + 1) = sumTo ts k + ts[k].sz := by
  unfold sumTo
  rw [List.take_succ_eq_append_getElem h, List.map_append, List.sum_append]
  simp

theorem sumTo_mono (ts : List Oo) (k j : Nat) (h : k ≤ j) : sumTo ts k ≤ sumTo ts j := by
  induction j with
  | zero => obtain rfl : k = 0 := by omega
            exact Nat.le_refl _
  | succ j ih =>
    by_cases e : k = j + 1
    · subst e; exact Nat.le_refl _
    · have := ih (by omega)
      by_cases hj : j < ts.length
      · rw [sumTo_step ts j hj]; omega
      · have e : sumTo ts (j + 1) = sumTo ts j := by unfold sumTo; rw [List.take_of_length_le (by omega), List.take_of_length_le (by omega)]
        omega

/-- How much a list of orders holds. -/
def bulk (ts : List Oo) : Nat := ts.length + sumTo ts ts.length

theorem bulk_le {ts : List Oo} (h : bulk ts ≤ 1048576) (k : Nat) (hk : k < ts.length) : ts.length ≤ 1048576 ∧ ts[k].l.length ≤ 1048576 := by
  unfold bulk at h
  have := sumTo_step ts k hk
  have := sumTo_mono ts (k + 1) ts.length (by omega)
  have : ts[k].sz = ts[k].h.nm.size + ts[k].l.length := rfl
  omega

set_option maxHeartbeats 1000000 in
theorem szOrderS_yes (a : Option Addr) (ts : List Oo) (cap : Nat) (z : Int) (w : World) (hz : z ≤ 1048576) (h : (bulk ts : Int) ≤ z) (I : Orders w a ts) :
    Calls Tryz.prog 16 #[.slice a ts.length cap, .int .i64 z] w fun e w' => e = .returned (.int .i64 (z - (bulk ts : Int))) ∧ Below w.heap.size w w' := by
  have hn : (ts.length : Int) ≤ z := by unfold bulk at h; omega
  have hd : decide (z - (ts.length : Int) < 0) = false := decide_eq_false (by omega)
  have HB : Hid (bulk ts = ts.length + sumTo ts ts.length) := rfl
  have HZ : Hid ((bulk ts : Int) ≤ z) := h
  clear h
  go_enter Tryz.func16, Tryz.ntmps16
  go_wp2
  go_loopw [1, 5] (fun u i wr => ∃ k y : Nat, k ≤ ts.length ∧ i = .int .i64 k ∧ (y : Int) + (ts.length : Int) ≤ z ∧ u = .int .i64 (z - (ts.length : Int) - (y : Int)) ∧ Below w.heap.size w wr ∧ Hid (y = sumTo ts k)) (fun _ i _ => ts.length - (intOf i).toNat)
  case atStart => exact ⟨0, 0, by omega, rfl, by omega, by simp, Below.refl _ _, rfl⟩
  case round =>
    obtain ⟨k, y, hk, rfl, hy, rfl, L, H⟩ := hrel
    by_cases hkn : k < ts.length
    · obtain ⟨b, o, ai, ci, rfl, hlt, c0, c1, c2, c3, c4, c6, c7, c8, c5, J⟩ := (I.on L).at k hkn
      have hs := sumTo_step ts k hkn
      have hm := sumTo_mono ts (k + 1) ts.length (by omega)
      have hh := HB.out
      have hhz := HZ.out
      have hy' := H.out
      have hsz : ts[k].sz = ts[k].h.nm.size + ts[k].l.length := rfl
      have hle : (ts[k].h.nm.size : Int) + (ts[k].l.length : Int) ≤ z - (ts.length : Int) - (y : Int) := by omega
      have HS : Hid (y + ts[k].h.nm.size + ts[k].l.length = sumTo ts (k + 1)) := by show _ = _; omega
      have hd2 : decide (z - (ts.length : Int) - (y : Int) - (ts[k].h.nm.size : Int) - (ts[k].l.length : Int) < 0) = false := decide_eq_false (by omega)
      clear hs hm hh hhz hy' H hsz
      have HC : Hid (∀ w, _) := fun w => szOrder_yes ts[k].h ai ts[k].l.length ci _ w (by omega) hle
      generalize ts[k].l.length = m at *
      generalize ts[k].h = p at *
      go_wp2_with fail
      refine (HC.out _).mono ?_
      rintro e w1 ⟨rfl, L1⟩
      have L2 := join_below L L1
      clear HC
      generalize p.nm.size = q at *
      go_wp2
      go_roundw
      case rel => exact ⟨k + 1, y + q + m, by omega, by go_num, by omega, by go_num, L2, HS⟩
      case measure => simp [intOf]; omega
    · obtain rfl : k = ts.length := by omega
      have HE : Hid ((bulk ts : Int) = (ts.length : Int) + (y : Int)) := by show _ = _; have := HB.out; have := H.out; omega
      clear H
      go_wp2
      go_ret
      exact ⟨Pk.ret_int (by rw [HE.out]; omega), L⟩

set_option maxHeartbeats 1000000 in
theorem szOrderS_no (a : Option Addr) (ts : List Oo) (cap : Nat) (z : Int) (w : World) (hz : z ≤ 1048576) (hz0 : 0 ≤ z) (hn : ts.length ≤ maxLen) (hs : ∀ i (h : i < ts.length), ts[i].h.nm.size ≤ maxLen ∧ ts[i].l.length ≤ maxLen) (h : ¬ (bulk ts : Int) ≤ z) (I : Orders w a ts) :
    Calls Tryz.prog 16 #[.slice a ts.length cap, .int .i64 z] w fun e w' => e = .returned (.int .i64 (-1)) ∧ Below w.heap.size w w' := by
  have HH : Hid (∀ i (h : i < ts.length), ts[i].h.nm.size ≤ maxLen ∧ ts[i].l.length ≤ maxLen) := hs
  have HB : Hid ((ts.length : Int) + (sumTo ts ts.length : Int) > z) := by unfold bulk at h; show _ > _; omega
  unfold maxLen at hn
  clear hs h
  by_cases h0 : (ts.length : Int) ≤ z
  · have hd : decide (z - (ts.length : Int) < 0) = false := decide_eq_false (by omega)
    go_enter Tryz.func16, Tryz.ntmps16
    go_wp2
    go_loopw [1, 5] (fun u i wr => ∃ k y : Nat, k ≤ ts.length ∧ i = .int .i64 k ∧ (y : Int) + (ts.length : Int) ≤ z ∧ u = .int .i64 (z - (ts.length : Int) - (y : Int)) ∧ Below w.heap.size w wr ∧ Hid (y = sumTo ts k)) (fun _ i _ => ts.length - (intOf i).toNat)
    case atStart => exact ⟨0, 0, by omega, rfl, by omega, by simp, Below.refl _ _, rfl⟩
    case round =>
      obtain ⟨k, y, hk, rfl, hy, rfl, L, H⟩ := hrel
      by_cases hkn : k < ts.length
      · obtain ⟨b, o, ai, ci, rfl, hlt, c0, c1, c2, c3, c4, c6, c7, c8, c5, J⟩ := (I.on L).at k hkn
        have HM : Hid (ts[k].h.nm.size ≤ maxLen ∧ ts[k].l.length ≤ maxLen) := HH.out k hkn
        have HS : Hid (y + ts[k].h.nm.size + ts[k].l.length = sumTo ts (k + 1)) := by show _ = _; have := sumTo_step ts k hkn; have := H.out; have : ts[k].sz = ts[k].h.nm.size + ts[k].l.length := rfl; omega
        by_cases hle : (ts[k].h.nm.size : Int) + (ts[k].l.length : Int) ≤ z - (ts.length : Int) - (y : Int)
        · have hd2 : decide (z - (ts.length : Int) - (y : Int) - (ts[k].h.nm.size : Int) - (ts[k].l.length : Int) < 0) = false := decide_eq_false (by omega)
          have HC : Hid (∀ w, _) := fun w => szOrder_yes ts[k].h ai ts[k].l.length ci _ w (by omega) hle
          clear HM
          generalize ts[k].l.length = m at *
          generalize ts[k].h = p at *
          go_wp2_with fail
          refine (HC.out _).mono ?_
          rintro e w1 ⟨rfl, L1⟩
          have L2 := join_below L L1
          clear HC
          generalize p.nm.size = q at *
          go_wp2
          go_roundw
          case rel => exact ⟨k + 1, y + q + m, by omega, by go_num, by omega, by go_num, L2, HS⟩
          case measure => simp [intOf]; omega
        · have HC : Hid (∀ w, _) := fun w => szOrder_no ts[k].h ai ts[k].l.length ci (z - (ts.length : Int) - (y : Int)) w (by omega) (by omega) HM.out.1 HM.out.2 (by omega)
          clear hle HM HS
          generalize ts[k].l.length = m at *
          generalize ts[k].h = p at *
          go_wp2_with fail
          refine (HC.out _).mono ?_
          rintro e w1 ⟨rfl, L1⟩
          have L2 := join_below L L1
          go_wp2
          go_ret
          exact ⟨rfl, L2⟩
      · exfalso
        have := HB.out
        have := H.out
        obtain rfl : k = ts.length := by omega
        omega
  · have hd : decide (z - (ts.length : Int) < 0) = true := decide_eq_true (by omega)
    go_enter Tryz.func16, Tryz.ntmps16
    go_wp2
    go_ret
    exact ⟨rfl, Below.refl _ _⟩

end Od
end Go.Proofs.YtehmlnojjfeheaaGreat

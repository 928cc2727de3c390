/- copyOrders of the program: orders in a row of their own, their rides in rows of their own. -/
import Derived.Test.YtehmlnojjfeheaaGreatOfClone2
import Derived.Test.YtehmlnojjfeheaaGreatOfOrds2
import Derived.Test.YtehmlnojjfeheaaGreatOfLines
namespace Go.Proofs.YtehmlnojjfeheaaGreat
namespace Of
open Go.ChangeShapes Go.WideShapes Go.ChangeAt Go.RowKit
open Pk (new_below join_below cell_at heap_new frozen_at lt_of kept heap_old info_of Room own_form)
open Rd (Ri Rides)
open Od (Oo)
set_option linter.unusedSimpArgs false
set_option linter.unusedVariables false

/-- Orders in a row, none of whose lists of rides is nil. -/
def OrdS (w : World) (b o : Nat) (ts : List Oo) : Prop := ∀ i (h : i < ts.length), Od.Nums w b (o + i * 9) ts[i].h ∧ ∃ bi oi ci, bi < w.heap.size ∧ w.cell? ⟨b, o + i * 9 + 5, none⟩ = some (.slice (some ⟨bi, oi, none⟩) ts[i].l.length ci) ∧ Rides w (some ⟨bi, oi, none⟩) ts[i].l

theorem rides_cells {w : World} {b o : Nat} {l : List Ri} (I : Rides w (some ⟨b, o, none⟩) l) : ∀ j, j < l.length * 4 → ∃ v, w.cell? ⟨b, o + j, none⟩ = some v ∧ v.oneCell' = true := by
  intro j hj
  rcases I with h | ⟨b', o', e, hb, hc⟩
  · subst h; simp at hj
  · simp only [Option.some.injEq, Addr.mk.injEq, and_true] at e
    obtain ⟨rfl, rfl⟩ := e
    obtain ⟨c0, c1, c2, c3⟩ := hc (j / 4) (by omega)
    have hq : j % 4 = 0 ∨ j % 4 = 1 ∨ j % 4 = 2 ∨ j % 4 = 3 := by omega
    rcases hq with h | h | h | h
    · exact ⟨_, by rw [show o + j = o + j / 4 * 4 by omega]; exact c0, rfl⟩
    · exact ⟨_, by rw [show o + j = o + j / 4 * 4 + 1 by omega]; exact c1, rfl⟩
    · exact ⟨_, by rw [show o + j = o + j / 4 * 4 + 2 by omega]; exact c2, rfl⟩
    · exact ⟨_, by rw [show o + j = o + j / 4 * 4 + 3 by omega]; exact c3, rfl⟩

theorem rides_moved {w w' : World} {b o g : Nat} {l : List Ri} (I : Rides w (some ⟨b, o, none⟩) l) (hg : g < w'.heap.size) (hc : ∀ j, j < l.length * 4 → w'.cell? ⟨g, j, none⟩ = w.cell? ⟨b, o + j, none⟩) : Rides w' (some ⟨g, 0, none⟩) l := by
  rcases I with h | ⟨b', o', e, hb, hcc⟩
  · exact Or.inl h
  · simp only [Option.some.injEq, Addr.mk.injEq, and_true] at e
    obtain ⟨rfl, rfl⟩ := e
    refine Or.inr ⟨g, 0, rfl, hg, fun i hi => ?_⟩
    obtain ⟨c0, c1, c2, c3⟩ := hcc i hi
    rw [show 0 + i * 4 = i * 4 by omega, hc (i * 4) (by omega), hc (i * 4 + 1) (by omega), hc (i * 4 + 2) (by omega), hc (i * 4 + 3) (by omega)]
    exact ⟨c0, by rw [← Nat.add_assoc]; exact c1, by rw [← Nat.add_assoc]; exact c2, by rw [← Nat.add_assoc]; exact c3⟩

theorem rides_off {w : World} {b o g i : Nat} {l : List Ri} {u : Value} (h : Rides w (some ⟨b, o, none⟩) l) (hne : b ≠ g) : Rides (w.setCell ⟨g, i, none⟩ u) (some ⟨b, o, none⟩) l := by
  rcases h with h | ⟨b', o', e, hb, hc⟩
  · exact Or.inl h
  · simp only [Option.some.injEq, Addr.mk.injEq, and_true] at e
    obtain ⟨rfl, rfl⟩ := e
    refine Or.inr ⟨b, o, rfl, by rw [World.size_setCell]; exact hb, fun j hj => ?_⟩
    rw [Od.cell_other (p := ⟨b, o + j * 4, none⟩) hne, Od.cell_other (p := ⟨b, o + j * 4 + 1, none⟩) hne, Od.cell_other (p := ⟨b, o + j * 4 + 2, none⟩) hne, Od.cell_other (p := ⟨b, o + j * 4 + 3, none⟩) hne]
    exact hc j hj

/-- A row of orders in block g: the first k have rides in blocks of their own, from lo on; the others' lie below lo. -/
structure CpO (w : World) (lo g : Nat) (gf : Nat → Nat) (k : Nat) (ts : List Oo) : Prop where
  room : Room w g (ts.length * 9)
  nums : ∀ i (h : i < ts.length), Od.Nums w g (i * 9) ts[i].h
  each : ∀ i (h : i < ts.length), i < k → ∃ a c, w.cell? ⟨g, i * 9 + 5, none⟩ = some (.slice a ts[i].l.length c) ∧ (ts[i].l.length = 0 ∨ (a = some ⟨gf i, 0, none⟩ ∧ lo ≤ gf i ∧ gf i ≠ g ∧ gf i < w.heap.size ∧ Rides w (some ⟨gf i, 0, none⟩) ts[i].l ∧ Room w (gf i) (ts[i].l.length * 4)))
  apart : ∀ i j (hi : i < ts.length) (hj : j < ts.length), i < k → j < k → i ≠ j → ts[i].l.length ≠ 0 → ts[j].l.length ≠ 0 → gf i ≠ gf j
  rest : ∀ i (h : i < ts.length), k ≤ i → ∃ bi oi ci, bi < lo ∧ w.cell? ⟨g, i * 9 + 5, none⟩ = some (.slice (some ⟨bi, oi, none⟩) ts[i].l.length ci) ∧ Rides w (some ⟨bi, oi, none⟩) ts[i].l

theorem CpO.on {w w1 : World} {lo g : Nat} {gf : Nat → Nat} {k : Nat} {ts : List Oo} (h : CpO w lo g gf k ts) (L : Below w.heap.size w w1) (hg : g < w.heap.size) : CpO w1 lo g gf k ts := by
  refine ⟨h.room.on L hg, fun i hi => (h.nums i hi).on fun j => L.cell (p := ⟨g, j, none⟩) hg, fun i hi hk => ?_, h.apart, fun i hi hk => ?_⟩
  · obtain ⟨a, c, h1, h2⟩ := h.each i hi hk
    exact ⟨a, c, by rw [L.cell (p := ⟨g, i * 9 + 5, none⟩) hg]; exact h1, h2.imp_right fun ⟨q1, q2, q3, q4, q5, q6⟩ => ⟨q1, q2, q3, Nat.lt_of_lt_of_le q4 L.size, q5.on L, q6.on L q4⟩⟩
  · obtain ⟨bi, oi, ci, h1, h2, h3⟩ := h.rest i hi hk
    exact ⟨bi, oi, ci, h1, by rw [L.cell (p := ⟨g, i * 9 + 5, none⟩) hg]; exact h2, h3.on L⟩

/-- A name is written over by itself. -/
theorem CpO.name {w : World} {lo g : Nat} {gf : Nat → Nat} {k : Nat} {ts : List Oo} (h : CpO w lo g gf k ts) (hlo : lo ≤ g) (j : Nat) (hj : j < ts.length) : CpO (w.setCell ⟨g, j * 9 + 2, none⟩ (.string ts[j].h.nm)) lo g gf k ts := by
  refine ⟨h.room.set g _ _, fun i hi => ?_, fun i hi hk => ?_, h.apart, fun i hi hk => ?_⟩
  · obtain ⟨n0, n1, n2, n3, n4, n6, n7, n8⟩ := h.nums i hi
    refine ⟨?_, ?_, ?_, ?_, ?_, ?_, ?_, ?_⟩
    · rw [Od.set_cell n0, if_neg (by omega)]
    · rw [Od.set_cell n1, if_neg (by omega)]
    · by_cases e : i = j
      · subst e
        rw [Od.set_cell n2, if_pos rfl]
      · rw [Od.set_cell n2, if_neg (by omega)]
    · rw [Od.set_cell n3, if_neg (by omega)]
    · rw [Od.set_cell n4, if_neg (by omega)]
    · rw [Od.set_cell n6, if_neg (by omega)]
    · rw [Od.set_cell n7, if_neg (by omega)]
    · rw [Od.set_cell n8, if_neg (by omega)]
  · obtain ⟨a, c, h1, h2⟩ := h.each i hi hk
    exact ⟨a, c, by rw [Od.set_cell h1, if_neg (by omega)], h2.imp_right fun ⟨q1, q2, q3, q4, q5, q6⟩ => ⟨q1, q2, q3, by rw [World.size_setCell]; exact q4, rides_off q5 q3, q6.set g _ _⟩⟩
  · obtain ⟨bi, oi, ci, q1, q2, q3⟩ := h.rest i hi hk
    exact ⟨bi, oi, ci, q1, by rw [Od.set_cell q2, if_neg (by omega)], rides_off q3 (by omega)⟩

theorem CpO.put {w : World} {lo g : Nat} {gf : Nat → Nat} {k : Nat} {ts : List Oo} (h : CpO w lo g gf k ts) (hk : k < ts.length) (hlo : lo ≤ g) (a2 : Option Addr) (g2 c2 : Nat) (hp : ts[k].l.length = 0 ∨ (a2 = some ⟨g2, 0, none⟩ ∧ lo ≤ g2 ∧ g2 ≠ g ∧ g2 < w.heap.size ∧ Rides w (some ⟨g2, 0, none⟩) ts[k].l ∧ Room w g2 (ts[k].l.length * 4) ∧ ∀ i (hi : i < ts.length), i < k → ts[i].l.length ≠ 0 → gf i ≠ g2)) :
    CpO (w.setCell ⟨g, k * 9 + 5, none⟩ (.slice a2 ts[k].l.length c2)) lo g (upd gf k g2) (k + 1) ts := by
  refine ⟨h.room.set g _ _, fun i hi => ?_, fun i hi hik => ?_, fun i j hi hj hik hjk hne h0 h1 => ?_, fun i hi hik => ?_⟩
  · obtain ⟨n0, n1, n2, n3, n4, n6, n7, n8⟩ := h.nums i hi
    refine ⟨?_, ?_, ?_, ?_, ?_, ?_, ?_, ?_⟩
    · rw [Od.set_cell n0, if_neg (by omega)]
    · rw [Od.set_cell n1, if_neg (by omega)]
    · rw [Od.set_cell n2, if_neg (by omega)]
    · rw [Od.set_cell n3, if_neg (by omega)]
    · rw [Od.set_cell n4, if_neg (by omega)]
    · rw [Od.set_cell n6, if_neg (by omega)]
    · rw [Od.set_cell n7, if_neg (by omega)]
    · rw [Od.set_cell n8, if_neg (by omega)]
  · by_cases e : i = k
    · subst e
      rw [upd_same]
      obtain ⟨⟨v, hv⟩, -⟩ := h.room (i * 9 + 5) (by omega)
      exact ⟨a2, c2, by rw [Od.set_cell hv, if_pos rfl], hp.imp_right fun ⟨q1, q2, q3, q4, q5, q6, _⟩ => ⟨q1, q2, q3, by rw [World.size_setCell]; exact q4, rides_off q5 q3, q6.set g _ _⟩⟩
    · rw [upd_other _ _ _ _ e]
      obtain ⟨a, c, q, h2⟩ := h.each i hi (by omega)
      exact ⟨a, c, by rw [Od.set_cell q, if_neg (by omega)], h2.imp_right fun ⟨q1, q2, q3, q4, q5, q6⟩ => ⟨q1, q2, q3, by rw [World.size_setCell]; exact q4, rides_off q5 q3, q6.set g _ _⟩⟩
  · by_cases e : i = k
    · subst e
      rw [upd_same, upd_other _ _ _ _ (fun h => hne h.symm)]
      obtain ⟨-, -, -, -, -, -, hnew⟩ := hp.resolve_left h0
      exact fun h => hnew j hj (by omega) h1 h.symm
    · rw [upd_other _ _ _ _ e]
      by_cases e2 : j = k
      · subst e2
        rw [upd_same]
        obtain ⟨-, -, -, -, -, -, hnew⟩ := hp.resolve_left h1
        exact hnew i hi (by omega) h0
      · rw [upd_other _ _ _ _ e2]
        exact h.apart i j hi hj (by omega) (by omega) hne h0 h1
  · obtain ⟨bi, oi, ci, q1, q2, q3⟩ := h.rest i hi (by omega)
    exact ⟨bi, oi, ci, q1, by rw [Od.set_cell q2, if_neg (by omega)], rides_off q3 (by omega)⟩

/-- Orders that were copied: none, or a row of them. -/
def LtO (w : World) (lo : Nat) (a : Option Addr) (gf : Nat → Nat) (k : Nat) (ts : List Oo) : Prop := ts.length = 0 ∨ ∃ g, a = some ⟨g, 0, none⟩ ∧ lo ≤ g ∧ g < w.heap.size ∧ CpO w lo g gf k ts

theorem LtO.on {w w1 : World} {lo : Nat} {a : Option Addr} {gf : Nat → Nat} {k : Nat} {ts : List Oo} (h : LtO w lo a gf k ts) (L : Below w.heap.size w w1) : LtO w1 lo a gf k ts := by
  rcases h with h | ⟨g, h1, h2, h3, h4⟩
  · exact Or.inl h
  · exact Or.inr ⟨g, h1, h2, Nat.lt_of_lt_of_le h3 L.size, h4.on L h3⟩

theorem LtO.orders {w : World} {lo : Nat} {a : Option Addr} {gf : Nat → Nat} {ts : List Oo} (h : LtO w lo a gf ts.length ts) : Od.Orders w a ts := by
  rcases h with h | ⟨g, rfl, h2, h3, h4⟩
  · exact Or.inl (List.eq_nil_of_length_eq_zero h)
  · refine Or.inr ⟨g, 0, rfl, h3, fun i hi => ?_⟩
    obtain ⟨a, c, q, h5⟩ := h4.each i hi hi
    rw [Nat.zero_add]
    refine ⟨h4.nums i hi, a, c, q, ?_⟩
    rcases h5 with h5 | ⟨rfl, -, -, -, R, -⟩
    · exact Or.inl (List.eq_nil_of_length_eq_zero h5)
    · exact R

theorem ords_cells {w : World} {b o : Nat} {ts : List Oo} (I : OrdS w b o ts) : ∀ j, j < ts.length * 9 → ∃ v, w.cell? ⟨b, o + j, none⟩ = some v ∧ v.oneCell' = true := by
  intro j hj
  obtain ⟨⟨n0, n1, n2, n3, n4, n6, n7, n8⟩, bi, oi, ci, -, n5, -⟩ := I (j / 9) (by omega)
  have hq : j % 9 = 0 ∨ j % 9 = 1 ∨ j % 9 = 2 ∨ j % 9 = 3 ∨ j % 9 = 4 ∨ j % 9 = 5 ∨ j % 9 = 6 ∨ j % 9 = 7 ∨ j % 9 = 8 := by omega
  rcases hq with h | h | h | h | h | h | h | h | h
  · exact ⟨_, by rw [show o + j = o + j / 9 * 9 by omega]; exact n0, rfl⟩
  · exact ⟨_, by rw [show o + j = o + j / 9 * 9 + 1 by omega]; exact n1, rfl⟩
  · exact ⟨_, by rw [show o + j = o + j / 9 * 9 + 2 by omega]; exact n2, rfl⟩
  · exact ⟨_, by rw [show o + j = o + j / 9 * 9 + 3 by omega]; exact n3, rfl⟩
  · exact ⟨_, by rw [show o + j = o + j / 9 * 9 + 4 by omega]; exact n4, rfl⟩
  · exact ⟨_, by rw [show o + j = o + j / 9 * 9 + 5 by omega]; exact n5, rfl⟩
  · exact ⟨_, by rw [show o + j = o + j / 9 * 9 + 6 by omega]; exact n6, rfl⟩
  · exact ⟨_, by rw [show o + j = o + j / 9 * 9 + 7 by omega]; exact n7, rfl⟩
  · exact ⟨_, by rw [show o + j = o + j / 9 * 9 + 8 by omega]; exact n8, rfl⟩

theorem lto_start {w w1 : World} {b o : Nat} {a : Option Addr} {ts : List Oo} (I : OrdS w b o ts) (L : Below w.heap.size w w1) (C : Cloned w w1 a b o ts.length 9) : LtO w1 w.heap.size a (fun _ => 0) 0 ts := by
  rcases C with h | ⟨g, rfl, h1, h2, h3, h4⟩
  · exact Or.inl h
  · refine Or.inr ⟨g, rfl, h1, h2, ⟨fun j hj => ?_, fun i hi => ?_, fun i hi h => by omega, fun i j hi hj h => by omega, fun i hi _ => ?_⟩⟩
    · obtain ⟨v, hv, -⟩ := ords_cells I j hj
      exact ⟨⟨v, by rw [h3 j hj]; exact hv⟩, h4 j⟩
    · obtain ⟨⟨n0, n1, n2, n3, n4, n6, n7, n8⟩, -⟩ := I i hi
      refine ⟨?_, ?_, ?_, ?_, ?_, ?_, ?_, ?_⟩
      · rw [h3 (i * 9) (by omega)]; exact n0
      · rw [h3 (i * 9 + 1) (by omega), ← Nat.add_assoc]; exact n1
      · rw [h3 (i * 9 + 2) (by omega), ← Nat.add_assoc]; exact n2
      · rw [h3 (i * 9 + 3) (by omega), ← Nat.add_assoc]; exact n3
      · rw [h3 (i * 9 + 4) (by omega), ← Nat.add_assoc]; exact n4
      · rw [h3 (i * 9 + 6) (by omega), ← Nat.add_assoc]; exact n6
      · rw [h3 (i * 9 + 7) (by omega), ← Nat.add_assoc]; exact n7
      · rw [h3 (i * 9 + 8) (by omega), ← Nat.add_assoc]; exact n8
    · obtain ⟨-, bi, oi, ci, hbi, n5, S⟩ := I i hi
      exact ⟨bi, oi, ci, hbi, by rw [h3 (i * 9 + 5) (by omega), ← Nat.add_assoc]; exact n5, S.on L⟩

set_option maxRecDepth 100000 in
set_option maxHeartbeats 4000000 in
theorem copyOrders_val (HCL : ∀ (s : ByteArray) (W : World), s.size ≤ 1048576 → Calls Tryz.prog 109 #[.string s] W fun e w' => e = .returned (.string s) ∧ Below W.heap.size W w') (b o : Nat) (ts : List Oo) (cap : Nat) (w : World) (hn : ts.length ≤ 1048576) (hb : b < w.heap.size) (hs : ∀ i (h : i < ts.length), ts[i].l.length ≤ 1048576 ∧ ts[i].h.nm.size ≤ 1048576) (I : OrdS w b o ts) :
    Calls Tryz.prog 89 #[.slice (some ⟨b, o, none⟩) ts.length cap] w fun e w' => ∃ a' c' gf, e = .returned (.slice a' ts.length c') ∧ LtO w' w.heap.size a' gf ts.length ts ∧ Below w.heap.size w w' := by
  have HS : Hid (∀ i (h : i < ts.length), ts[i].l.length ≤ 1048576 ∧ ts[i].h.nm.size ≤ 1048576) := hs
  have HC : Hid (∀ _ : Unit, _) := fun _ => clone_orders b o ts.length cap w hn hb (ords_cells I)
  have HK : Hid (∀ (s : ByteArray) (W : World), s.size ≤ 1048576 → _) := HCL
  clear hs HCL
  go_enter Tryz.func89, Tryz.ntmps89
  go_wp2_with fail
  refine (HC.out ()).mono ?_
  rintro e w1 ⟨a1, c1, rfl, C1, L1⟩
  have T1 := lto_start I L1 C1
  clear HC C1 I
  go_wp2
  go_loopw [8] (fun i wr => ∃ (k : Nat) (gf : Nat → Nat), k ≤ ts.length ∧ i = .int .i64 k ∧ Below w.heap.size w wr ∧ Hid (LtO wr w.heap.size a1 gf k ts)) (fun i _ => ts.length - (intOf i).toNat)
  case atStart => exact ⟨0, _, by omega, rfl, L1, T1⟩
  case round =>
    obtain ⟨k, gf, hk, rfl, L, H⟩ := hrel
    by_cases hkn : k < ts.length
    · obtain ⟨g, rfl, hg1, hg2, Q⟩ := H.out.resolve_left (by omega)
      obtain ⟨hsk, hsn⟩ := HS.out k hkn
      have HX : Hid (∀ W : World, _) := fun W => HK.out ts[k].h.nm W hsn
      have q2 := (Q.nums k hkn).2.2.1
      have HQ : Hid (∀ W, Below wr.heap.size wr W → CpO W w.heap.size g gf k ts) := fun W l => Q.on l hg2
      have HNN : Hid (ts[k].h.nm = ts[k].h.nm) := rfl
      clear H Q
      go_wp2_with fail
      refine (HX.out _).mono ?_
      rintro e w2 ⟨rfl, L2⟩
      have Q2 := HQ.out w2 L2
      have hg3 : g < w2.heap.size := Nat.lt_of_lt_of_le hg2 L2.size
      have r2 := (Q2.nums k hkn).2.2.1
      have f2 := (Q2.room (k * 9 + 2) (by omega)).2
      have Q3 := Q2.name hg1 k hkn
      have B3 : Below w.heap.size w (w2.setCell ⟨g, k * 9 + 2, none⟩ (.string ts[k].h.nm)) := (L.trans (L2.mono L.size)).setCell (p := ⟨g, k * 9 + 2, none⟩) hg1 _
      have hz3 : (w2.setCell ⟨g, k * 9 + 2, none⟩ (.string ts[k].h.nm)).heap.size = w2.heap.size := World.size_setCell ..
      obtain ⟨bi, oi, ci, hbi, q5, S⟩ := Q3.rest k hkn (Nat.le_refl _)
      clear HQ Q2 q2 HX
      have HY : Hid (∀ _ : Unit, _) := fun _ => clone_rides bi oi ts[k].l.length ci (w2.setCell ⟨g, k * 9 + 2, none⟩ (.string ts[k].h.nm)) hsk (by have := L.size; have := L2.size; omega) (rides_cells S)
      have HP : Hid (∀ w4 a2 c2, Below (w2.setCell ⟨g, k * 9 + 2, none⟩ (.string ts[k].h.nm)).heap.size (w2.setCell ⟨g, k * 9 + 2, none⟩ (.string ts[k].h.nm)) w4 → Cloned (w2.setCell ⟨g, k * 9 + 2, none⟩ (.string ts[k].h.nm)) w4 a2 bi oi ts[k].l.length 4 → ∃ gf', LtO (w4.setCell ⟨g, k * 9 + 5, none⟩ (.slice a2 ts[k].l.length c2)) w.heap.size (some ⟨g, 0, none⟩) gf' (k + 1) ts) := by
        intro w4 a2 c2 L4 C4
        have Q4 := Q3.on L4 (by omega)
        have hgs : g < (w4.setCell ⟨g, k * 9 + 5, none⟩ (.slice a2 ts[k].l.length c2)).heap.size := by rw [World.size_setCell]; have := L4.size; omega
        rcases C4 with h0 | ⟨g2, rfl, h1, h2, h3, h4⟩
        · exact ⟨_, Or.inr ⟨g, rfl, hg1, hgs, Q4.put hkn hg1 a2 0 c2 (Or.inl h0)⟩⟩
        · refine ⟨_, Or.inr ⟨g, rfl, hg1, hgs, Q4.put hkn hg1 _ g2 c2 (Or.inr ⟨rfl, ?_, by omega, h2, rides_moved S h2 h3, fun j hj => ?_, fun i hi hik h0 => ?_⟩)⟩⟩
          · have := L.size; have := L2.size; omega
          · obtain ⟨v, hv, -⟩ := rides_cells S j hj
            exact ⟨⟨v, by rw [h3 j hj]; exact hv⟩, h4 j⟩
          · obtain ⟨a, c, -, q⟩ := Q3.each i hi hik
            obtain ⟨-, -, -, q4, -, -⟩ := q.resolve_left h0
            omega
      have f5 := (Q3.room (k * 9 + 5) (by omega)).2
      have HCE : Hid (∀ w4, Below (w2.setCell ⟨g, k * 9 + 2, none⟩ (.string ts[k].h.nm)).heap.size (w2.setCell ⟨g, k * 9 + 2, none⟩ (.string ts[k].h.nm)) w4 → w4.cell? ⟨g, k * 9 + 5, none⟩ = some (.slice (some ⟨bi, oi, none⟩) ts[k].l.length ci) ∧ w4.frozen? ⟨g, k * 9 + 5, none⟩ = false) := fun w4 L4 => ⟨by rw [L4.cell (p := ⟨g, k * 9 + 5, none⟩) (by show g < _; omega)]; exact q5, by rw [L4.frozen (p := ⟨g, k * 9 + 5, none⟩) (by show g < _; omega)]; exact f5⟩
      clear Q3 S f5 hz3
      generalize ts[k].l.length = m at *
      go_wp2_with fail
      refine (HY.out ()).mono ?_
      generalize w2.setCell ⟨g, k * 9 + 2, none⟩ (.string ts[k].h.nm) = w3 at *
      rintro e w4 ⟨a2, c2, rfl, C4, L4⟩
      obtain ⟨z5, y5⟩ := HCE.out w4 L4
      obtain ⟨gf', HL⟩ := HP.out w4 a2 c2 L4 C4
      have L5 : Below w.heap.size w (w4.setCell ⟨g, k * 9 + 5, none⟩ (.slice a2 m c2)) := (B3.trans (L4.mono B3.size)).setCell (p := ⟨g, k * 9 + 5, none⟩) hg1 _
      have HLL : Hid (_) := HL
      clear HY HP HCE C4 L4 q5 HL r2 f2
      go_wp2
      go_roundw
      case rel => exact ⟨k + 1, _, by omega, by go_num, L5, HLL⟩
      case measure => simp [intOf]; omega
    · obtain rfl : k = ts.length := by omega
      go_wp2
      go_ret
      exact ⟨a1, c1, gf, rfl, H.out, L⟩

end Of
end Go.Proofs.YtehmlnojjfeheaaGreat

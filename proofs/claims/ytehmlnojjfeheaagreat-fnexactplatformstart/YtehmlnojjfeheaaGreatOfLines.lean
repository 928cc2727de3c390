/- Contract of copyLines of the program. -/
import Derived.Test.YtehmlnojjfeheaaGreatOfClone
namespace Go.Proofs.YtehmlnojjfeheaaGreat
namespace Of
open Go.ChangeShapes Go.WideShapes Go.ChangeAt Go.RowKit Go.Joins
open Pk (new_below join_below cell_at heap_new frozen_at lt_of kept heap_old info_of Room)
set_option linter.unusedSimpArgs false
set_option linter.unusedVariables false

open Tn (Tr Stops Trains Nums)

theorem trains_cells {w : World} {b o : Nat} {ts : List Tr} (I : Trains w (some ⟨b, o, none⟩) ts) : ∀ j, j < ts.length * 5 → ∃ v, w.cell? ⟨b, o + j, none⟩ = some v ∧ v.oneCell' = true := by
  intro j hj
  obtain ⟨b', o', bi, oi, ci, e, -, c0, c1, c2, c3, c4, -⟩ := I.at (j / 5) (by omega)
  simp only [Option.some.injEq, Addr.mk.injEq, and_true] at e
  obtain ⟨rfl, rfl⟩ := e
  have hj5 : j = j / 5 * 5 + j % 5 := by omega
  have hr : j % 5 < 5 := Nat.mod_lt _ (by omega)
  rcases (by omega : j % 5 = 0 ∨ j % 5 = 1 ∨ j % 5 = 2 ∨ j % 5 = 3 ∨ j % 5 = 4) with h | h | h | h | h
  · exact ⟨_, by rw [show o + j = o + j / 5 * 5 by omega]; exact c0, rfl⟩
  · exact ⟨_, by rw [show o + j = o + j / 5 * 5 + 1 by omega]; exact c1, rfl⟩
  · exact ⟨_, by rw [show o + j = o + j / 5 * 5 + 2 by omega]; exact c2, rfl⟩
  · exact ⟨_, by rw [show o + j = o + j / 5 * 5 + 3 by omega]; exact c3, rfl⟩
  · exact ⟨_, by rw [show o + j = o + j / 5 * 5 + 4 by omega]; exact c4, rfl⟩

theorem stops_cells {w : World} {b o : Nat} {l : List Tn.St} (I : Stops w (some ⟨b, o, none⟩) l) : ∀ j, j < l.length * 3 → ∃ v, w.cell? ⟨b, o + j, none⟩ = some v ∧ v.oneCell' = true := by
  intro j hj
  obtain ⟨b', o', e, -, c0, c1, c2⟩ := I.at (j / 3) (by omega)
  simp only [Option.some.injEq, Addr.mk.injEq, and_true] at e
  obtain ⟨rfl, rfl⟩ := e
  rcases (by omega : j % 3 = 0 ∨ j % 3 = 1 ∨ j % 3 = 2) with h | h | h
  · exact ⟨_, by rw [show o + j = o + j / 3 * 3 by omega]; exact c0, rfl⟩
  · exact ⟨_, by rw [show o + j = o + j / 3 * 3 + 1 by omega]; exact c1, rfl⟩
  · exact ⟨_, by rw [show o + j = o + j / 3 * 3 + 2 by omega]; exact c2, rfl⟩

theorem stops_moved {w w' : World} {b o g : Nat} {l : List Tn.St} (I : Stops w (some ⟨b, o, none⟩) l) (hg : g < w'.heap.size) (hc : ∀ j, j < l.length * 3 → w'.cell? ⟨g, j, none⟩ = w.cell? ⟨b, o + j, none⟩) : Stops w' (some ⟨g, 0, none⟩) l := by
  refine Or.inr ⟨g, 0, rfl, hg, fun i hi => ?_⟩
  obtain ⟨b', o', e, -, c0, c1, c2⟩ := I.at i hi
  simp only [Option.some.injEq, Addr.mk.injEq, and_true] at e
  obtain ⟨rfl, rfl⟩ := e
  rw [show 0 + i * 3 = i * 3 by omega, hc (i * 3) (by omega), hc (i * 3 + 1) (by omega), hc (i * 3 + 2) (by omega)]
  exact ⟨c0, by rw [← Nat.add_assoc]; exact c1, by rw [← Nat.add_assoc]; exact c2⟩

/-- A row of trains in block g: the first k have stops in blocks of their own, from lo on; the others' lie below lo. -/
structure Cp (w : World) (lo g : Nat) (gf cf : Nat → Nat) (k : Nat) (ts : List Tr) : Prop where
  room : Room w g (ts.length * 5)
  nums : ∀ i (h : i < ts.length), Nums w g (i * 5) ts[i].h
  each : ∀ i (h : i < ts.length), i < k → lo ≤ gf i ∧ gf i ≠ g ∧ gf i < w.heap.size ∧ w.cell? ⟨g, i * 5 + 4, none⟩ = some (.slice (some ⟨gf i, 0, none⟩) ts[i].l.length (cf i)) ∧ Stops w (some ⟨gf i, 0, none⟩) ts[i].l ∧ Room w (gf i) (ts[i].l.length * 3)
  apart : ∀ i j, i < k → j < k → i < ts.length → j < ts.length → i ≠ j → gf i ≠ gf j
  rest : ∀ i (h : i < ts.length), k ≤ i → ∃ bi oi ci, bi < lo ∧ w.cell? ⟨g, i * 5 + 4, none⟩ = some (.slice (some ⟨bi, oi, none⟩) ts[i].l.length ci) ∧ Stops w (some ⟨bi, oi, none⟩) ts[i].l

theorem Cp.on {w w1 : World} {lo g : Nat} {gf cf : Nat → Nat} {k : Nat} {ts : List Tr} (h : Cp w lo g gf cf k ts) (L : Below w.heap.size w w1) (hg : g < w.heap.size) : Cp w1 lo g gf cf k ts := by
  refine ⟨h.room.on L hg, fun i hi => (h.nums i hi).on fun j => L.cell (p := ⟨g, j, none⟩) hg, fun i hi hk => ?_, h.apart, fun i hi hk => ?_⟩
  · obtain ⟨h1, h2, h3, h4, h5, h6⟩ := h.each i hi hk
    exact ⟨h1, h2, Nat.lt_of_lt_of_le h3 L.size, by rw [L.cell (p := ⟨g, i * 5 + 4, none⟩) hg]; exact h4, h5.on L, h6.on L h3⟩
  · obtain ⟨bi, oi, ci, h1, h2, h3⟩ := h.rest i hi hk
    exact ⟨bi, oi, ci, h1, by rw [L.cell (p := ⟨g, i * 5 + 4, none⟩) hg]; exact h2, h3.on L⟩

theorem stops_off {w : World} {b o g i : Nat} {l : List Tn.St} {u : Value} (h : Stops w (some ⟨b, o, none⟩) l) (hne : b ≠ g) : Stops (w.setCell ⟨g, i, none⟩ u) (some ⟨b, o, none⟩) l := by
  rcases h with h | ⟨b', o', e, hb, hc⟩
  · exact Or.inl h
  · simp only [Option.some.injEq, Addr.mk.injEq, and_true] at e
    obtain ⟨rfl, rfl⟩ := e
    refine Or.inr ⟨b, o, rfl, by rw [World.size_setCell]; exact hb, fun j hj => ?_⟩
    rw [Od.cell_other (p := ⟨b, o + j * 3, none⟩) hne, Od.cell_other (p := ⟨b, o + j * 3 + 1, none⟩) hne, Od.cell_other (p := ⟨b, o + j * 3 + 2, none⟩) hne]
    exact hc j hj

def upd (f : Nat → Nat) (k v : Nat) : Nat → Nat := fun i => if i = k then v else f i
theorem upd_same (f : Nat → Nat) (k v : Nat) : upd f k v k = v := if_pos rfl
theorem upd_other (f : Nat → Nat) (k v i : Nat) (h : i ≠ k) : upd f k v i = f i := if_neg h

theorem Cp.put {w : World} {lo g : Nat} {gf cf : Nat → Nat} {k : Nat} {ts : List Tr} (h : Cp w lo g gf cf k ts) (hk : k < ts.length) (hlo : lo ≤ g) (g2 c2 : Nat) (h1 : lo ≤ g2) (h2 : g2 ≠ g) (h3 : g2 < w.heap.size) (hS : Stops w (some ⟨g2, 0, none⟩) ts[k].l) (hR : Room w g2 (ts[k].l.length * 3)) (hnew : ∀ i, i < k → i < ts.length → gf i ≠ g2) :
    Cp (w.setCell ⟨g, k * 5 + 4, none⟩ (.slice (some ⟨g2, 0, none⟩) ts[k].l.length c2)) lo g (upd gf k g2) (upd cf k c2) (k + 1) ts := by
  refine ⟨h.room.set g _ _, fun i hi => ?_, fun i hi hik => ?_, fun i j hi hj hil hjl hne => ?_, fun i hi hik => ?_⟩
  · obtain ⟨n0, n1, n2, n3⟩ := h.nums i hi
    refine ⟨?_, ?_, ?_, ?_⟩
    · rw [Od.set_cell n0, if_neg (by omega)]
    · rw [Od.set_cell n1, if_neg (by omega)]
    · rw [Od.set_cell n2, if_neg (by omega)]
    · rw [Od.set_cell n3, if_neg (by omega)]
  · by_cases e : i = k
    · subst e
      rw [upd_same, upd_same]
      obtain ⟨⟨v, hv⟩, -⟩ := h.room (i * 5 + 4) (by omega)
      refine ⟨h1, h2, by rw [World.size_setCell]; exact h3, by rw [Od.set_cell hv, if_pos rfl], stops_off hS h2, hR.set g _ _⟩
    · rw [upd_other _ _ _ _ e, upd_other _ _ _ _ e]
      obtain ⟨q1, q2, q3, q4, q5, q6⟩ := h.each i hi (by omega)
      exact ⟨q1, q2, by rw [World.size_setCell]; exact q3, by rw [Od.set_cell q4, if_neg (by omega)], stops_off q5 q2, q6.set g _ _⟩
  · by_cases e : i = k
    · subst e
      rw [upd_same, upd_other _ _ _ _ (fun h => hne h.symm)]
      exact fun h => hnew j (by omega) hjl h.symm
    · rw [upd_other _ _ _ _ e]
      by_cases e2 : j = k
      · subst e2
        rw [upd_same]
        exact hnew i (by omega) hil
      · rw [upd_other _ _ _ _ e2]
        exact h.apart i j (by omega) (by omega) hil hjl hne
  · obtain ⟨bi, oi, ci, q1, q2, q3⟩ := h.rest i hi (by omega)
    exact ⟨bi, oi, ci, q1, by rw [Od.set_cell q2, if_neg (by omega)], stops_off q3 (by omega)⟩

/-- Trains that were copied: none, or a row of them. -/
def Lt (w : World) (lo : Nat) (a : Option Addr) (gf cf : Nat → Nat) (k : Nat) (ts : List Tr) : Prop := ts.length = 0 ∨ ∃ g, a = some ⟨g, 0, none⟩ ∧ lo ≤ g ∧ g < w.heap.size ∧ Cp w lo g gf cf k ts

theorem Lt.on {w w1 : World} {lo : Nat} {a : Option Addr} {gf cf : Nat → Nat} {k : Nat} {ts : List Tr} (h : Lt w lo a gf cf k ts) (L : Below w.heap.size w w1) : Lt w1 lo a gf cf k ts := by
  rcases h with h | ⟨g, h1, h2, h3, h4⟩
  · exact Or.inl h
  · exact Or.inr ⟨g, h1, h2, Nat.lt_of_lt_of_le h3 L.size, h4.on L h3⟩

theorem Lt.trains {w : World} {lo : Nat} {a : Option Addr} {gf cf : Nat → Nat} {ts : List Tr} (h : Lt w lo a gf cf ts.length ts) : Trains w a ts := by
  rcases h with h | ⟨g, rfl, h2, h3, h4⟩
  · exact Or.inl (List.eq_nil_of_length_eq_zero h)
  · refine Or.inr ⟨g, 0, rfl, h3, fun i hi => ?_⟩
    obtain ⟨q1, q2, q3, q4, q5, q6⟩ := h4.each i hi hi
    rw [Nat.zero_add]
    exact ⟨h4.nums i hi, gf i, 0, _, q4, q5⟩

theorem lt_start {w w1 : World} {b o : Nat} {a : Option Addr} {ts : List Tr} (I : Trains w (some ⟨b, o, none⟩) ts) (hs : ∀ i (h : i < ts.length), 1 ≤ ts[i].l.length) (L : Below w.heap.size w w1) (C : Cloned w w1 a b o ts.length 5) : Lt w1 w.heap.size a (fun _ => 0) (fun _ => 0) 0 ts := by
  rcases C with h | ⟨g, rfl, h1, h2, h3, h4⟩
  · exact Or.inl h
  · refine Or.inr ⟨g, rfl, h1, h2, ⟨fun j hj => ?_, fun i hi => ?_, fun i hi h => by omega, fun i j hi => by omega, fun i hi _ => ?_⟩⟩
    · obtain ⟨v, hv, -⟩ := trains_cells I j hj
      exact ⟨⟨v, by rw [h3 j hj]; exact hv⟩, h4 j⟩
    · obtain ⟨b', o', bi, oi, ci, e, -, c0, c1, c2, c3, c4, -⟩ := I.at i hi
      simp only [Option.some.injEq, Addr.mk.injEq, and_true] at e
      obtain ⟨rfl, rfl⟩ := e
      refine ⟨?_, ?_, ?_, ?_⟩
      · rw [h3 (i * 5) (by omega)]; exact c0
      · rw [h3 (i * 5 + 1) (by omega), ← Nat.add_assoc]; exact c1
      · rw [h3 (i * 5 + 2) (by omega), ← Nat.add_assoc]; exact c2
      · rw [h3 (i * 5 + 3) (by omega), ← Nat.add_assoc]; exact c3
    · obtain ⟨b', o', bi, oi, ci, e, -, c0, c1, c2, c3, c4, S⟩ := I.at i hi
      simp only [Option.some.injEq, Addr.mk.injEq, and_true] at e
      obtain ⟨rfl, rfl⟩ := e
      refine ⟨bi, oi, ci, ?_, by rw [h3 (i * 5 + 4) (by omega), ← Nat.add_assoc]; exact c4, S.on L⟩
      have := hs i hi
      obtain ⟨b2, o2, e2, hb2, -⟩ := S.at 0 (by omega)
      simp only [Option.some.injEq, Addr.mk.injEq, and_true] at e2
      rw [e2.1]
      exact hb2

set_option maxHeartbeats 2000000 in
theorem copyLines_val (b o : Nat) (ts : List Tr) (cap : Nat) (w : World) (hn : ts.length ≤ 1048576) (hb : b < w.heap.size) (hs : ∀ i (h : i < ts.length), 1 ≤ ts[i].l.length ∧ ts[i].l.length ≤ 1048576) (I : Trains w (some ⟨b, o, none⟩) ts) :
    Calls Tryz.prog 87 #[.slice (some ⟨b, o, none⟩) ts.length cap] w fun e w' => ∃ a' c' gf cf, e = .returned (.slice a' ts.length c') ∧ Lt w' w.heap.size a' gf cf ts.length ts ∧ Below w.heap.size w w' := by
  have HS : Hid (∀ i (h : i < ts.length), 1 ≤ ts[i].l.length ∧ ts[i].l.length ≤ 1048576) := hs
  have HC : Hid (∀ _ : Unit, _) := fun _ => clone_trains b o ts.length cap w hn hb (trains_cells I)
  clear hs
  go_enter Tryz.func87, Tryz.ntmps87
  go_wp2_with fail
  refine (HC.out ()).mono ?_
  rintro e w1 ⟨a1, c1, rfl, C1, L1⟩
  have T1 := lt_start I (fun i h => (HS.out i h).1) L1 C1
  clear HC C1 I
  go_wp2
  go_loopw [8] (fun i wr => ∃ (k : Nat) (gf cf : Nat → Nat), k ≤ ts.length ∧ i = .int .i64 k ∧ Below w.heap.size w wr ∧ Hid (Lt wr w.heap.size a1 gf cf k ts)) (fun i _ => ts.length - (intOf i).toNat)
  case atStart => exact ⟨0, _, _, by omega, rfl, L1, T1⟩
  case round =>
    obtain ⟨k, gf, cf, hk, rfl, L, H⟩ := hrel
    by_cases hkn : k < ts.length
    · obtain ⟨g, rfl, hg1, hg2, Q⟩ := H.out.resolve_left (by omega)
      obtain ⟨bi, oi, ci, hbi, q4, S⟩ := Q.rest k hkn (Nat.le_refl _)
      have hsk := HS.out k hkn
      have hbw : bi < wr.heap.size := by omega
      have HX : Hid (∀ _ : Unit, _) := fun _ => clone_stops bi oi ts[k].l.length ci wr hsk.2 hbw (stops_cells S)
      have HP : Hid (∀ w2 a2 c2, Below wr.heap.size wr w2 → Cloned wr w2 a2 bi oi ts[k].l.length 3 → Lt (w2.setCell ⟨g, k * 5 + 4, none⟩ (.slice a2 ts[k].l.length c2)) w.heap.size (some ⟨g, 0, none⟩) (upd gf k (match a2 with | some x => x.block | none => 0)) (upd cf k c2) (k + 1) ts) := by
        intro w2 a2 c2 L2 C2
        obtain ⟨g2, rfl, h1, h2, h3, h4⟩ := C2.resolve_left (by omega)
        refine Or.inr ⟨g, rfl, hg1, by rw [World.size_setCell]; exact Nat.lt_of_lt_of_le hg2 L2.size, ?_⟩
        refine (Q.on L2 hg2).put hkn hg1 g2 c2 (by omega) (by omega) h2 (stops_moved S h2 h3) (fun j hj => ?_) (fun i hi hil => ?_)
        · obtain ⟨v, hv, -⟩ := stops_cells S j hj
          exact ⟨⟨v, by rw [h3 j hj]; exact hv⟩, h4 j⟩
        · have := (Q.each i hil hi).2.2.1
          omega
      have hfz := (Q.room (k * 5 + 4) (by omega)).2
      have HCE : Hid (∀ w2, Below wr.heap.size wr w2 → w2.cell? ⟨g, k * 5 + 4, none⟩ = some (.slice (some ⟨bi, oi, none⟩) ts[k].l.length ci) ∧ w2.frozen? ⟨g, k * 5 + 4, none⟩ = false) := fun w2 L2 => ⟨by rw [L2.cell (p := ⟨g, k * 5 + 4, none⟩) hg2]; exact q4, by rw [L2.frozen (p := ⟨g, k * 5 + 4, none⟩) hg2]; exact hfz⟩
      clear Q S H hsk hfz
      generalize ts[k].l.length = m at *
      go_wp2_with fail
      refine (HX.out ()).mono ?_
      rintro e w2 ⟨a2, c2, rfl, C2, L2⟩
      obtain ⟨z4, f4⟩ := HCE.out w2 L2
      have HL : Hid (Lt _ _ _ _ _ _ _) := HP.out w2 a2 c2 L2 C2
      have L3 : Below w.heap.size w (w2.setCell ⟨g, k * 5 + 4, none⟩ (.slice a2 m c2)) := (L.trans (L2.mono L.size)).setCell (p := ⟨g, k * 5 + 4, none⟩) hg1 _
      clear HX HP HCE C2 L2 q4
      go_wp2
      go_roundw
      case rel => exact ⟨k + 1, _, _, by omega, by go_num, L3, HL⟩
      case measure => simp [intOf]; omega
    · obtain rfl : k = ts.length := by omega
      go_wp2
      go_ret
      exact ⟨a1, c1, gf, cf, rfl, H.out, L⟩

end Of
end Go.Proofs.YtehmlnojjfeheaaGreat

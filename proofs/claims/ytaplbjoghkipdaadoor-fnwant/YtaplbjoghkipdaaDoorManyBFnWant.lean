/- Texts laid into one, in their order: CurEa, MathTf, MathDij, MathDij3, TfInts, TfBef, TfCmp, TfOk, TfWy, TfOver, TfRows, CurTf, CurWt, OfCopy, OfClone, OfLines, TfOkS, SeMeet, SeOk, OfStart, OfStartS, OfStartL, CurWs, TkOk, TkTic, TkLine, TkPut, LgWant. -/
import Derived.Test.YtaplbjoghkipdaaDoorManyAFnWant
import Derived.Deep.Cut
import Derived.Deep.RegionHeld3
import Derived.Test.YtaplbjoghkipdaaDoorTfEdges
import Derived.Test.YtaplbjoghkipdaaDoorPkRow
import Derived.Deep.AppendLies
import Derived.Test.YtaplbjoghkipdaaDoorCurSign
import Derived.Test.YtaplbjoghkipdaaDoorOfOff
import Derived.Maps.AppendAt
import Derived.BigRegion
import Derived.Test.YtaplbjoghkipdaaDoorSeOpen
import Derived.Laws.StructEq
import Derived.Test.YtaplbjoghkipdaaDoorTkLegs
import Derived.Deep.Slices
import Derived.Deep.Strs
import Derived.Lib.SmallJoins
import Derived.Test.YtaplbjoghkipdaaDoorDecDoor
import Derived.Test.YtaplbjoghkipdaaDoorTnRides
/- The draw of some rides: the model's Earliest, or one ride of a train; a day of it may be turned. -/
namespace Go.Proofs.YtaplbjoghkipdaaDoor
namespace Rd
open Go.ChangeShapes Go.WideShapes Go.ChangeAt Go.RowKit
open Pk (new_below join_below cell_at heap_new frozen_at lt_of kept heap_old info_of own_form)
open Cur (Is Moved below_any once_any pickInt_any Kb)
open Tn (Tr St Trains Stops Nums station_any)
set_option linter.unusedSimpArgs false
set_option linter.unusedVariables false

/-- Trains none of whose blocks is the cursor's. -/
def TrC (w : World) (c : Nat) (va : Option Addr) (ts : List Tr) : Prop := ∃ b o, va = some ⟨b, o, none⟩ ∧ b ≠ c ∧ b < w.heap.size ∧ ∀ i (h : i < ts.length), Nums w b (o + i * 5) ts[i].h ∧ ∃ bi oi ci, bi ≠ c ∧ bi < w.heap.size ∧ w.cell? ⟨b, o + i * 5 + 4, none⟩ = some (.slice (some ⟨bi, oi, none⟩) ts[i].l.length ci) ∧ Stops w (some ⟨bi, oi, none⟩) ts[i].l

theorem kb_cell {c : Nat} {w w1 : World} (K : Kb c w w1) {p : Addr} (hp : p.block ≠ c) (hl : p.block < w.heap.size) : w1.cell? p = w.cell? p := World.cell?_of_block (K.block p.block hl hp)

theorem stops_kb {c : Nat} {w w1 : World} {b o : Nat} {l : List St} (h : Stops w (some ⟨b, o, none⟩) l) (K : Kb c w w1) (hb : b ≠ c) (hl : b < w.heap.size) : Stops w1 (some ⟨b, o, none⟩) l := by
  rcases h with h | ⟨b', o', e, h1, h2⟩
  · exact Or.inl h
  · simp only [Option.some.injEq, Addr.mk.injEq, and_true] at e
    obtain ⟨rfl, rfl⟩ := e
    refine Or.inr ⟨b, o, rfl, Nat.lt_of_lt_of_le hl K.size, fun i hi => ?_⟩
    rw [kb_cell K (p := ⟨b, o + i * 3, none⟩) hb hl, kb_cell K (p := ⟨b, o + i * 3 + 1, none⟩) hb hl, kb_cell K (p := ⟨b, o + i * 3 + 2, none⟩) hb hl]
    exact h2 i hi

theorem TrC.kb {w w1 : World} {c : Nat} {va : Option Addr} {ts : List Tr} (h : TrC w c va ts) (K : Kb c w w1) : TrC w1 c va ts := by
  obtain ⟨b, o, rfl, h1, h2, h3⟩ := h
  refine ⟨b, o, rfl, h1, Nat.lt_of_lt_of_le h2 K.size, fun i hi => ?_⟩
  obtain ⟨q, bi, oi, ci, k1, k2, k3, k4⟩ := h3 i hi
  exact ⟨q.on fun j => kb_cell K (p := ⟨b, j, none⟩) h1 h2, bi, oi, ci, k1, Nat.lt_of_lt_of_le k2 K.size, by rw [kb_cell K (p := ⟨b, o + i * 5 + 4, none⟩) h1 h2]; exact k3, stops_kb k4 K k1 k2⟩

theorem TrC.trains {w : World} {c : Nat} {va : Option Addr} {ts : List Tr} (h : TrC w c va ts) : Trains w va ts := by
  obtain ⟨b, o, rfl, h1, h2, h3⟩ := h
  refine Or.inr ⟨b, o, rfl, h2, fun i hi => ?_⟩
  obtain ⟨q, bi, oi, ci, k1, k2, k3, k4⟩ := h3 i hi
  exact ⟨q, bi, oi, ci, k3, k4⟩

theorem RideAt.kb {w w1 : World} {base c rc : Nat} {a : Option Addr} {l : List Ri} (h : RideAt w base a rc l) (K : Kb c w w1) (hc : c < base) : RideAt w1 base a rc l := by
  obtain ⟨h1, h2⟩ := h
  refine ⟨h1, ?_⟩
  rcases h2 with h2 | ⟨g, cap, cur, q, hb, hh, hr⟩
  · exact Or.inl h2
  · exact Or.inr ⟨g, cap, cur, q, hb, (K.block g (lt_of hh) (by omega)).trans hh, hr⟩

theorem rcells_day : ∀ (l : List Ri) (i : Nat) (h : i < l.length) (v : Int), (rcells l).set (i * 4 + 1) (.int .i64 v) = rcells (l.set i ⟨l[i].tr, v, l[i].fr, l[i].to⟩)
  | p :: r, 0, _, v => by simp [rcells]
  | p :: r, i + 1, h, v => by
    have := rcells_day r i (by simpa using h) v
    have e : (i + 1) * 4 + 1 = i * 4 + 1 + 1 + 1 + 1 + 1 := by omega
    rw [e]
    simp only [rcells, List.flatMap_cons, List.getElem_cons_succ, List.set_cons_succ, List.cons_append, List.nil_append] at this ⊢
    rw [this]

/-- The day of one ride written. -/
theorem RideAt.day {w : World} {base g i rc : Nat} {l : List Ri} (h : RideAt w base (some ⟨g, 0, none⟩) rc l) (hi : i < l.length) (v : Int) : RideAt (w.setCell ⟨g, i * 4 + 1, none⟩ (.int .i64 v)) base (some ⟨g, 0, none⟩) rc (l.set i ⟨l[i].tr, v, l[i].fr, l[i].to⟩) := by
  have h2 := own_setn (i := i * 4 + 1) h (.int .i64 v)
  rw [rcells_day l i hi v] at h2
  show World.ownsRow _ _ _ _ _ _ _
  rw [List.length_set]
  exact h2

theorem ride_one {w : World} {base : Nat} {x : Ri} (hb : base ≤ w.heap.size) : RideAt (w.alloc (.cells #[.int .i64 x.tr, .int .i64 x.dy, .int .i64 x.fr, .int .i64 x.to] 43)) base (some ⟨w.heap.size, 0, none⟩) 1 [x] := by
  have h := heap_new w (.cells #[.int .i64 x.tr, .int .i64 x.dy, .int .i64 x.fr, .int .i64 x.to] 43)
  exact ⟨rfl, Or.inr ⟨w.heap.size, 1, _, rfl, hb, h, Nat.le_refl _, by simp [maxLen], rfl, rfl⟩⟩

theorem told_len {ts : List Tr} {fr tt day mi : Int} {rs : List Ri} {z : Int} (h : Told ts fr tt day mi rs z true) : 1 ≤ rs.length := by
  rcases h with ⟨-, -, p, h1, -, rfl⟩ | ⟨h, -⟩
  · rw [ridesOf_length]; exact h1.1.2.1
  · cases h

set_option maxRecDepth 100000 in
set_option maxHeartbeats 8000000 in
theorem rides_any {W0 : World} {a : Option Addr} {n cap c : Nat} {w : World} (C : Is W0 a n cap c w) (ts : List Tr) (va : Option Addr) (vc : Nat) (h1 : 1 ≤ ts.length) (hn : ts.length ≤ 40) (hs : ∀ i (h : i < ts.length), 2 ≤ ts[i].l.length ∧ ts[i].l.length ≤ 20) (T : TrC w c va ts) :
    Calls Tryd.prog 39 #[.pointer (some ⟨c, 0, none⟩), .slice va ts.length vc] w fun e w' => (∃ (rs : List Ri) (ra : Option Addr) (rc : Nat), e = .returned (.slice ra rs.length rc) ∧ RideAt w' w.heap.size ra rc rs ∧ 1 ≤ rs.length ∧ rs.length ≤ 6) ∧ Is W0 a n cap c w' ∧ Kb c w w' := by
  have hcw := C.lt
  have hW0 := C.below.size
  go_enter Tryd.func39, Tryd.ntmps39
  go_wp2_with fail
  refine (station_any C).mono ?_
  rintro e w1 ⟨⟨x1, rfl⟩, C1, M1⟩
  have K1 := Kb.moved M1
  go_wp2_with fail
  refine (station_any C1).mono ?_
  rintro e w2 ⟨⟨x2, rfl⟩, C2, M2⟩
  have K2 := K1.trans (Kb.moved M2)
  go_wp2_with fail
  refine (below_any C2 _).mono ?_
  rintro e w3 ⟨⟨x3, rfl, hx30, hx31⟩, C3, M3⟩
  have K3 := K2.trans (Kb.moved M3)
  have hx32 := hx31 (by omega)
  go_wp2_with fail
  refine (below_any C3 _).mono ?_
  rintro e w4 ⟨⟨x4, rfl, hx40, hx41⟩, C4, M4⟩
  have K4 := K3.trans (Kb.moved M4)
  have T4 := T.kb K4
  have HEA : Hid (∀ fr tt day mi, _) := fun fr tt day mi => specEarliest_val ts va vc fr tt day mi w4 (by omega) (fun i h => by have := hs i h; omega) T4.trains
  clear M1 M2 M3 M4 K1 K2 K3 C C1 C2 C3 hx31 hx41
  go_wp2_with fail
  refine (HEA.out _ _ _ _).mono ?_
  rintro e w5 ⟨ra, rc, rs, z, b, rfl, HTo, hr6, RA, L5⟩
  have C5 := C4.kept L5
  have K5 := K4.trans (Kb.of c L5)
  have RA5 : RideAt w5 w.heap.size ra rc rs := RA.lower K4.size
  have T5 := T.kb K5
  have HTL : Hid (b = true → 1 ≤ rs.length) := fun h => by rw [h] at HTo; exact told_len HTo
  clear HEA HTo RA L5 C4 K4 T4
  go_upto_if 26 with fail
  go_cut [5] from 6 (fun v wc => ∃ (rs : List Ri) (ra : Option Addr) (rc : Nat), v = .slice ra rs.length rc ∧ RideAt wc w.heap.size ra rc rs ∧ 1 ≤ rs.length ∧ rs.length ≤ 6 ∧ Is W0 a n cap c wc ∧ Kb c w wc)
  case first =>
    cases b
    · go_wp2_with fail
      refine (below_any C5 _).mono ?_
      rintro e w6 ⟨⟨i, rfl, hi0, hi1⟩, C6, M6⟩
      have hi2 := hi1 (by omega)
      obtain ⟨i, rfl⟩ : ∃ m : Nat, i = m := ⟨i.toNat, by omega⟩
      have hi3 : i < ts.length := by omega
      have T6 := T5.kb (Kb.moved M6)
      have K6 := K5.trans (Kb.moved M6)
      obtain ⟨tb, to', rfl, tb1, tb2, tb3⟩ := T6
      obtain ⟨⟨n0, n1, n2, n3⟩, bi, oi, ci, bi1, bi2, n4, S⟩ := tb3 i hi3
      obtain ⟨hs2, hs3⟩ := hs i hi3
      generalize ts[i] = t at *
      have N7 := new_below w6 (.cells #[.int .i64 t.h.id, .int .i64 t.h.dy, .int .i64 t.h.co, .int .i64 t.h.se, .slice (some ⟨bi, oi, none⟩) t.l.length ci] 72)
      have x7 := heap_new w6 (.cells #[.int .i64 t.h.id, .int .i64 t.h.dy, .int .i64 t.h.co, .int .i64 t.h.se, .slice (some ⟨bi, oi, none⟩) t.l.length ci] 72)
      have C7 := C6.alloc (.cells #[.int .i64 t.h.id, .int .i64 t.h.dy, .int .i64 t.h.co, .int .i64 t.h.se, .slice (some ⟨bi, oi, none⟩) t.l.length ci] 72)
      have K7 := K6.alloc (.cells #[.int .i64 t.h.id, .int .i64 t.h.dy, .int .i64 t.h.co, .int .i64 t.h.se, .slice (some ⟨bi, oi, none⟩) t.l.length ci] 72)
      obtain ⟨bq, oq, e9, -, s0, -, -⟩ := S.at 0 (by omega)
      simp only [Option.some.injEq, Addr.mk.injEq, and_true] at e9
      obtain ⟨rfl, rfl⟩ := e9
      obtain ⟨bq, oq, e9, -, s3, -, -⟩ := S.at 1 (by omega)
      simp only [Option.some.injEq, Addr.mk.injEq, and_true] at e9
      obtain ⟨rfl, rfl⟩ := e9
      have f0 := (N7.cell (p := ⟨bi, oi + 0 * 3, none⟩) bi2).trans s0
      have f3 := (N7.cell (p := ⟨bi, oi + 1 * 3, none⟩) bi2).trans s3
      have bi3 : bi < (w6.alloc (.cells #[.int .i64 t.h.id, .int .i64 t.h.dy, .int .i64 t.h.co, .int .i64 t.h.se, .slice (some ⟨bi, oi, none⟩) t.l.length ci] 72)).heap.size := Nat.lt_of_lt_of_le bi2 N7.size
      have K5s : c < w6.heap.size := Nat.lt_of_lt_of_le hcw K6.size
      clear C5 K5 RA5 T5 HTL M6 C6 K6 tb3 s0 s3 S N7 hi1 hi2
      go_upto_region 4 with fail
      generalize w6.alloc (.cells #[.int .i64 t.h.id, .int .i64 t.h.dy, .int .i64 t.h.co, .int .i64 t.h.se, .slice (some ⟨bi, oi, none⟩) t.l.length ci] 72) = w7 at *
      generalize w6.heap.size = BX at *
      have c0 : w7.cell? ⟨BX, 0, none⟩ = some (.int .i64 t.h.id) := cell_at x7 0
      have c4 : w7.cell? ⟨BX, 4, none⟩ = some (.slice (some ⟨bi, oi, none⟩) t.l.length ci) := cell_at x7 4
      obtain ⟨q0, hq0⟩ : ∃ q, (t.l[0]'(by omega)).st = q := ⟨_, rfl⟩
      obtain ⟨q1, hq1⟩ : ∃ q, (t.l[1]'(by omega)).st = q := ⟨_, rfl⟩
      rw [hq0] at f0
      rw [hq1] at f3
      obtain ⟨tid, hti⟩ : ∃ q, t.h.id = q := ⟨_, rfl⟩
      rw [hti] at c0
      have hcx : BX ≠ c := by have := K5s; omega
      have hxl := lt_of x7
      have HK : Hid (∀ w', Kb c w7 w' → w'.cell? ⟨BX, 0, none⟩ = some (.int .i64 tid) ∧ w'.cell? ⟨BX, 4, none⟩ = some (.slice (some ⟨bi, oi, none⟩) t.l.length ci) ∧ w'.cell? ⟨bi, oi, none⟩ = some (.int .i64 q0) ∧ w'.cell? ⟨bi, oi + 3, none⟩ = some (.int .i64 q1)) := fun w' K => ⟨(kb_cell K (p := ⟨BX, 0, none⟩) hcx hxl).trans c0, (kb_cell K (p := ⟨BX, 4, none⟩) hcx hxl).trans c4, (kb_cell K (p := ⟨bi, oi, none⟩) bi1 bi3).trans (by simpa using f0), (kb_cell K (p := ⟨bi, oi + 3, none⟩) bi1 bi3).trans (by simpa using f3)⟩
      have KD : Kb c w7 w7.drew := (Kb.refl c w7).drew
      have CD : Is W0 a n cap c w7.drew := C7.drewN 1
      have K7d : Kb c w w7.drew := K7.drew
      have htl : (0 : Int) < (t.l.length : Int) := by omega
      have htl1 : (1 : Int) < (t.l.length : Int) := by omega
      have hp0 : 0 < t.l.length := by omega
      have hp1 : 1 < t.l.length := by omega
      clear hq0 hq1 hti f0 f3 c0 c4 bi2 x7
      refine wp_region_held_drew (S := (fun w' => w'.cell? ⟨BX, 0, none⟩ = some (.int .i64 tid) ∧ w'.cell? ⟨BX, 4, none⟩ = some (.slice (some ⟨bi, oi, none⟩) t.l.length ci) ∧ w'.cell? ⟨bi, oi, none⟩ = some (.int .i64 q0) ∧ w'.cell? ⟨bi, oi + 3, none⟩ = some (.int .i64 q1))) (by kernel_rfl) ?_ (fun hHeld => ?_)
      · exact HK.out _ KD
      refine wpAnyH_take (i := 0) (v := .pointer (some ⟨BX, 0, none⟩)) rfl (by kernel_rfl) (by kernel_rfl) (by kernel_rfl) (fun _ _ _ h => h) (Or.inl ⟨by kernel_rfl, fun w hSw => by first | (go_simp; done) | (dsimp only at hSw; obtain ⟨hS0, hS1, hS2, hS3⟩ := hSw; go_simp; done) | rfl⟩) (by assumption) ?_
      simp only [Act.put, List.getElem_toArray, List.getElem_cons_succ, List.getElem_cons_zero, List.setIfInBounds_toArray, List.set_cons_succ, List.set_cons_zero]
      refine wpAnyH_take (i := 1) (v := .int .i64 tid) rfl (by kernel_rfl) (by kernel_rfl) (by kernel_rfl) (fun _ _ _ h => h) (Or.inl ⟨by kernel_rfl, fun w hSw => by first | (go_simp; done) | (dsimp only at hSw; obtain ⟨hS0, hS1, hS2, hS3⟩ := hSw; go_simp; done) | rfl⟩) (by assumption) ?_
      simp only [Act.put, List.getElem_toArray, List.getElem_cons_succ, List.getElem_cons_zero, List.setIfInBounds_toArray, List.set_cons_succ, List.set_cons_zero]
      refine wpAnyH_take (i := 2) (v := .pointer (some ⟨c, 0, none⟩)) rfl (by kernel_rfl) (by kernel_rfl) (by kernel_rfl) (fun _ _ _ h => h) (Or.inl ⟨by kernel_rfl, fun w hSw => by first | (go_simp; done) | (dsimp only at hSw; obtain ⟨hS0, hS1, hS2, hS3⟩ := hSw; go_simp; done) | rfl⟩) (by assumption) ?_
      simp only [Act.put, List.getElem_toArray, List.getElem_cons_succ, List.getElem_cons_zero, List.setIfInBounds_toArray, List.set_cons_succ, List.set_cons_zero]
      refine wpAnyH_take (i := 4) (v := .pointer (some ⟨BX, 4, none⟩)) rfl (by kernel_rfl) (by kernel_rfl) (by kernel_rfl) (fun _ _ _ h => h) (Or.inl ⟨by kernel_rfl, fun w hSw => by first | (go_simp; done) | (dsimp only at hSw; obtain ⟨hS0, hS1, hS2, hS3⟩ := hSw; go_simp; done) | rfl⟩) (by assumption) ?_
      simp only [Act.put, List.getElem_toArray, List.getElem_cons_succ, List.getElem_cons_zero, List.setIfInBounds_toArray, List.set_cons_succ, List.set_cons_zero]
      refine wpAnyH_take (i := 5) (v := .slice (some ⟨bi, oi, none⟩) t.l.length ci) rfl (by kernel_rfl) (by kernel_rfl) (by kernel_rfl) (fun _ _ _ h => h) (Or.inl ⟨by kernel_rfl, fun w hSw => by first | (go_simp; done) | (dsimp only at hSw; obtain ⟨hS0, hS1, hS2, hS3⟩ := hSw; go_simp; done) | rfl⟩) (by assumption) ?_
      simp only [Act.put, List.getElem_toArray, List.getElem_cons_succ, List.getElem_cons_zero, List.setIfInBounds_toArray, List.set_cons_succ, List.set_cons_zero]
      refine wpAnyH_take (i := 6) (v := .pointer (some ⟨bi, oi, none⟩)) rfl (by kernel_rfl) (by kernel_rfl) (by kernel_rfl) (fun _ _ _ h => h) (Or.inl ⟨by kernel_rfl, fun w hSw => by first | (go_simp; done) | (dsimp only at hSw; obtain ⟨hS0, hS1, hS2, hS3⟩ := hSw; go_simp; done) | rfl⟩) (by assumption) ?_
      simp only [Act.put, List.getElem_toArray, List.getElem_cons_succ, List.getElem_cons_zero, List.setIfInBounds_toArray, List.set_cons_succ, List.set_cons_zero]
      refine wpAnyH_take (i := 7) (v := .pointer (some ⟨bi, oi, none⟩)) rfl (by kernel_rfl) (by kernel_rfl) (by kernel_rfl) (fun _ _ _ h => h) (Or.inl ⟨by kernel_rfl, fun w hSw => by first | (go_simp; done) | (dsimp only at hSw; obtain ⟨hS0, hS1, hS2, hS3⟩ := hSw; go_simp; done) | rfl⟩) (by assumption) ?_
      simp only [Act.put, List.getElem_toArray, List.getElem_cons_succ, List.getElem_cons_zero, List.setIfInBounds_toArray, List.set_cons_succ, List.set_cons_zero]
      refine wpAnyH_take (i := 8) (v := .int .i64 q0) rfl (by kernel_rfl) (by kernel_rfl) (by kernel_rfl) (fun _ _ _ h => h) (Or.inl ⟨by kernel_rfl, fun w hSw => by first | (go_simp; done) | (dsimp only at hSw; obtain ⟨hS0, hS1, hS2, hS3⟩ := hSw; go_simp; done) | rfl⟩) (by assumption) ?_
      simp only [Act.put, List.getElem_toArray, List.getElem_cons_succ, List.getElem_cons_zero, List.setIfInBounds_toArray, List.set_cons_succ, List.set_cons_zero]
      refine wpAnyH_take (i := 9) (v := .pointer (some ⟨BX, 4, none⟩)) rfl (by kernel_rfl) (by kernel_rfl) (by kernel_rfl) (fun _ _ _ h => h) (Or.inl ⟨by kernel_rfl, fun w hSw => by first | (go_simp; done) | (dsimp only at hSw; obtain ⟨hS0, hS1, hS2, hS3⟩ := hSw; go_simp; done) | rfl⟩) (by assumption) ?_
      simp only [Act.put, List.getElem_toArray, List.getElem_cons_succ, List.getElem_cons_zero, List.setIfInBounds_toArray, List.set_cons_succ, List.set_cons_zero]
      refine wpAnyH_take (i := 10) (v := .slice (some ⟨bi, oi, none⟩) t.l.length ci) rfl (by kernel_rfl) (by kernel_rfl) (by kernel_rfl) (fun _ _ _ h => h) (Or.inl ⟨by kernel_rfl, fun w hSw => by first | (go_simp; done) | (dsimp only at hSw; obtain ⟨hS0, hS1, hS2, hS3⟩ := hSw; go_simp; done) | rfl⟩) (by assumption) ?_
      simp only [Act.put, List.getElem_toArray, List.getElem_cons_succ, List.getElem_cons_zero, List.setIfInBounds_toArray, List.set_cons_succ, List.set_cons_zero]
      refine wpAnyH_take (i := 11) (v := .pointer (some ⟨bi, oi + 3, none⟩)) rfl (by kernel_rfl) (by kernel_rfl) (by kernel_rfl) (fun _ _ _ h => h) (Or.inl ⟨by kernel_rfl, fun w hSw => by first | (go_simp; done) | (dsimp only at hSw; obtain ⟨hS0, hS1, hS2, hS3⟩ := hSw; go_simp; done) | rfl⟩) (by assumption) ?_
      simp only [Act.put, List.getElem_toArray, List.getElem_cons_succ, List.getElem_cons_zero, List.setIfInBounds_toArray, List.set_cons_succ, List.set_cons_zero]
      refine wpAnyH_take (i := 12) (v := .pointer (some ⟨bi, oi + 3, none⟩)) rfl (by kernel_rfl) (by kernel_rfl) (by kernel_rfl) (fun _ _ _ h => h) (Or.inl ⟨by kernel_rfl, fun w hSw => by first | (go_simp; done) | (dsimp only at hSw; obtain ⟨hS0, hS1, hS2, hS3⟩ := hSw; go_simp; done) | rfl⟩) (by assumption) ?_
      simp only [Act.put, List.getElem_toArray, List.getElem_cons_succ, List.getElem_cons_zero, List.setIfInBounds_toArray, List.set_cons_succ, List.set_cons_zero]
      refine wpAnyH_take (i := 13) (v := .int .i64 q1) rfl (by kernel_rfl) (by kernel_rfl) (by kernel_rfl) (fun _ _ _ h => h) (Or.inl ⟨by kernel_rfl, fun w hSw => by first | (go_simp; done) | (dsimp only at hSw; obtain ⟨hS0, hS1, hS2, hS3⟩ := hSw; go_simp; done) | rfl⟩) (by assumption) ?_
      simp only [Act.put, List.getElem_toArray, List.getElem_cons_succ, List.getElem_cons_zero, List.setIfInBounds_toArray, List.set_cons_succ, List.set_cons_zero]
      refine wpAnyH_ready (rs := [3]) (by kernel_rfl) (by simp) ?_
      refine AllReadyH.cons rfl (fun K hK => ?_) AllReadyH.nil
      go_simp
      go_wp2_with (go_at_call 28; (with_reducible refine (below_any CD _).mono ?_); rintro e w8 ⟨⟨d, rfl, hd0, hd1⟩, C8, M8⟩; have K78 : Kb c w7 w8 := KD.trans (Kb.moved M8))
      refine hK.out _ _ ?_ (fun hHeld2 => ?_)
      · first | exact hHeld | exact HK.out _ K78 | exact HK.out _ (K78.alloc _)
      clear hK K hHeld
      have hHeld := hHeld2
      clear hHeld2
      refine wpAnyH_take (i := 14) (v := .agg #[.int .i64 tid, .int .i64 d, .int .i64 q0, .int .i64 q1]) rfl (by kernel_rfl) (by kernel_rfl) (by kernel_rfl) (fun _ _ _ h => h) (Or.inl ⟨by kernel_rfl, fun w hSw => by first | (go_simp; done) | (dsimp only at hSw; obtain ⟨hS0, hS1, hS2, hS3⟩ := hSw; go_simp; done) | rfl⟩) (by assumption) ?_
      simp only [Act.put, List.getElem_toArray, List.getElem_cons_succ, List.getElem_cons_zero, List.setIfInBounds_toArray, List.set_cons_succ, List.set_cons_zero]
      refine wpAnyH_ready (rs := [15]) (by kernel_rfl) (by simp) ?_
      refine AllReadyH.cons rfl (fun K hK => ?_) AllReadyH.nil
      go_simp
      refine hK.out _ _ ?_ (fun hHeld2 => ?_)
      · first | exact hHeld | exact HK.out _ K78 | exact HK.out _ (K78.alloc _)
      clear hK K hHeld
      have hHeld := hHeld2
      clear hHeld2
      refine wpAnyH_ready (rs := [16]) (by kernel_rfl) (by simp) ?_
      refine AllReadyH.cons rfl (fun K hK => ?_) AllReadyH.nil
      go_simp
      refine hK.out _ _ ?_ (fun hHeld2 => ?_)
      · first | exact hHeld | exact HK.out _ K78 | exact HK.out _ (K78.alloc _)
      clear hK K hHeld
      have hHeld := hHeld2
      clear hHeld2
      refine wpAnyH_done (by kernel_rfl) ?_ _
      clear hHeld
      have C9 := C8.alloc (.cells #[.int .i64 tid, .int .i64 d, .int .i64 q0, .int .i64 q1] 43)
      have K9 := (K7d.trans (Kb.moved M8)).alloc (.cells #[.int .i64 tid, .int .i64 d, .int .i64 q0, .int .i64 q1] 43)
      have R9 : RideAt (w8.alloc (.cells #[.int .i64 tid, .int .i64 d, .int .i64 q0, .int .i64 q1] 43)) w.heap.size (some ⟨w8.heap.size, 0, none⟩) 1 [⟨tid, d, q0, q1⟩] := ride_one (K7d.trans (Kb.moved M8)).size
      go_wp2
      go_meet
      case rel => exact ⟨[⟨tid, d, q0, q1⟩], _, _, rfl, R9, by simp, by simp, C9, K9⟩
    · have HTL1 := HTL.out rfl
      go_wp2
      go_meet
      case rel => exact ⟨rs, ra, rc, rfl, RA5, HTL1, hr6, C5, K5⟩
  case rest =>
    obtain ⟨rs, ra, rc, rfl, RA, hr1, hr66, CC, KK⟩ := hcut
    clear C5 K5 RA5 T5 HTL hr6 T
    go_wp2_with fail
    refine (once_any CC _).mono ?_
    rintro e w8 ⟨⟨x, rfl⟩, C8, M8⟩
    have K8 := KK.trans (Kb.moved M8)
    have RA8 := RA.kb (Kb.moved M8) hcw
    clear CC KK M8 RA
    cases x
    · go_wp2
      go_ret
      exact ⟨⟨rs, ra, rc, rfl, RA8, hr1, hr66⟩, C8, K8⟩
    · go_wp2_with fail
      refine (below_any C8 _).mono ?_
      rintro e w9 ⟨⟨i, rfl, hi0, hi1⟩, C9, M9⟩
      have hi2 := hi1 (by omega)
      obtain ⟨i, rfl⟩ : ∃ m : Nat, i = m := ⟨i.toNat, by omega⟩
      have hi3 : i < rs.length := by omega
      have K9 := K8.trans (Kb.moved M9)
      have RA9 := RA8.kb (Kb.moved M9) hcw
      obtain ⟨g, cs, rfl, hg1, hg2, hg3⟩ : ∃ (g : Nat) (cs : Array Value), ra = some ⟨g, 0, none⟩ ∧ w.heap.size ≤ g ∧ w9.heap[g]? = some (Obj.cells cs 43 (0, 0)) ∧ Rides w9 (some ⟨g, 0, none⟩) rs := by
        rcases RA9.old with h | h
        · omega
        · exact h
      obtain ⟨bq, oq, e9, -, -, q1, -, -⟩ := hg3.at i hi3
      simp only [Option.some.injEq, Addr.mk.injEq, and_true] at e9
      obtain ⟨rfl, rfl⟩ := e9
      rw [Nat.zero_add] at q1
      obtain ⟨dv, hdv⟩ : ∃ q, rs[i].dy = q := ⟨_, rfl⟩
      rw [hdv] at q1
      have hgc : g ≠ c := by omega
      have gl := lt_of hg2
      have q2 : (w9.alloc (.cells #[.int .i64 (-1), .int .i64 1, .int .i64 7] 3)).cell? ⟨g, i * 4 + 1, none⟩ = some (.int .i64 dv) := ((new_below w9 _).cell (p := ⟨g, i * 4 + 1, none⟩) gl).trans q1
      have C9a : Is W0 a n cap c (w9.alloc (.cells #[.int .i64 (-1), .int .i64 1, .int .i64 7] 3)).drew := (C9.alloc _).drewN 1
      have K9a : Kb c w (w9.alloc (.cells #[.int .i64 (-1), .int .i64 1, .int .i64 7] 3)).drew := (K9.alloc _).drew
      have RWq : Cur.RowOf (fun _ => True) (w9.alloc (.cells #[.int .i64 (-1), .int .i64 1, .int .i64 7] 3)).drew w9.heap.size 3 := fun j hj => by
        have h := heap_new w9 (.cells #[.int .i64 (-1), .int .i64 1, .int .i64 7] 3)
        have h2 := cell_at h j
        match j, hj with
        | 0, _ => exact ⟨_, h2, trivial⟩
        | 1, _ => exact ⟨_, h2, trivial⟩
        | 2, _ => exact ⟨_, h2, trivial⟩
      have hc9 : w9.heap.size ≠ c := by have := C9.lt; omega
      have HPK : Hid (∀ _ : Unit, _) := fun _ => pickInt_any C9a (fun _ => True) w9.heap.size 3 3 hc9 (by omega) (by omega) RWq
      have RA9a := RA9.on ((new_below w9 (.cells #[.int .i64 (-1), .int .i64 1, .int .i64 7] 3)).drew)
      have HRA : Hid (∀ w', Moved c (w9.alloc (.cells #[.int .i64 (-1), .int .i64 1, .int .i64 7] 3)).drew w' → RideAt w' w.heap.size (some ⟨g, 0, none⟩) rc rs) := fun w' M => RA9a.kb (Kb.moved M) hcw
      have HFZ : Hid (∀ w', Moved c (w9.alloc (.cells #[.int .i64 (-1), .int .i64 1, .int .i64 7] 3)).drew w' → w'.frozen? ⟨g, i * 4 + 1, none⟩ = false ∧ w'.cell? ⟨g, i * 4 + 1, none⟩ = some (.int .i64 dv)) := fun w' M => ⟨(M.frozen (p := ⟨g, i * 4 + 1, none⟩) hgc).trans (frozen_at (heap_old hg2 (.cells #[.int .i64 (-1), .int .i64 1, .int .i64 7] 3)) _), (M.cell (p := ⟨g, i * 4 + 1, none⟩) hgc).trans q2⟩
      have hri : (i : Int) < (rs.length : Int) := by omega
      clear M9 K8 RA8 C8 hi1 C9 K9 RA9 RA9a RWq hg2 hg3 hdv C9a hi2
      go_upto_region 7 with fail
      refine wp_region_held_drew (S := (fun _ => True)) (by kernel_rfl) ?_ (fun hHeld => ?_)
      · trivial
      refine wpAnyH_take (i := 0) (v := .slice (some ⟨g, 0, none⟩) rs.length rc) rfl (by kernel_rfl) (by kernel_rfl) (by kernel_rfl) (fun _ _ _ h => h) (Or.inl ⟨by kernel_rfl, fun w hSw => by first | (go_simp; done) | (dsimp only at hSw; obtain ⟨hS0⟩ := hSw; go_simp; done) | rfl⟩) (by assumption) ?_
      simp only [Act.put, List.getElem_toArray, List.getElem_cons_succ, List.getElem_cons_zero, List.setIfInBounds_toArray, List.set_cons_succ, List.set_cons_zero]
      refine wpAnyH_take (i := 1) (v := .int .i64 i) rfl (by kernel_rfl) (by kernel_rfl) (by kernel_rfl) (fun _ _ _ h => h) (Or.inl ⟨by kernel_rfl, fun w hSw => by first | (go_simp; done) | (dsimp only at hSw; obtain ⟨hS0⟩ := hSw; go_simp; done) | rfl⟩) (by assumption) ?_
      simp only [Act.put, List.getElem_toArray, List.getElem_cons_succ, List.getElem_cons_zero, List.setIfInBounds_toArray, List.set_cons_succ, List.set_cons_zero]
      refine wpAnyH_take (i := 2) (v := .slice (some ⟨g, 0, none⟩) rs.length rc) rfl (by kernel_rfl) (by kernel_rfl) (by kernel_rfl) (fun _ _ _ h => h) (Or.inl ⟨by kernel_rfl, fun w hSw => by first | (go_simp; done) | (dsimp only at hSw; obtain ⟨hS0⟩ := hSw; go_simp; done) | rfl⟩) (by assumption) ?_
      simp only [Act.put, List.getElem_toArray, List.getElem_cons_succ, List.getElem_cons_zero, List.setIfInBounds_toArray, List.set_cons_succ, List.set_cons_zero]
      refine wpAnyH_take (i := 3) (v := .int .i64 i) rfl (by kernel_rfl) (by kernel_rfl) (by kernel_rfl) (fun _ _ _ h => h) (Or.inl ⟨by kernel_rfl, fun w hSw => by first | (go_simp; done) | (dsimp only at hSw; obtain ⟨hS0⟩ := hSw; go_simp; done) | rfl⟩) (by assumption) ?_
      simp only [Act.put, List.getElem_toArray, List.getElem_cons_succ, List.getElem_cons_zero, List.setIfInBounds_toArray, List.set_cons_succ, List.set_cons_zero]
      refine wpAnyH_take (i := 4) (v := .pointer (some ⟨g, i * 4, none⟩)) rfl (by kernel_rfl) (by kernel_rfl) (by kernel_rfl) (fun _ _ _ h => h) (Or.inl ⟨by kernel_rfl, fun w hSw => by first | (go_simp; done) | (dsimp only at hSw; obtain ⟨hS0⟩ := hSw; go_simp; done) | rfl⟩) (by assumption) ?_
      simp only [Act.put, List.getElem_toArray, List.getElem_cons_succ, List.getElem_cons_zero, List.setIfInBounds_toArray, List.set_cons_succ, List.set_cons_zero]
      refine wpAnyH_take (i := 5) (v := .pointer (some ⟨g, i * 4 + 1, none⟩)) rfl (by kernel_rfl) (by kernel_rfl) (by kernel_rfl) (fun _ _ _ h => h) (Or.inl ⟨by kernel_rfl, fun w hSw => by first | (go_simp; done) | (dsimp only at hSw; obtain ⟨hS0⟩ := hSw; go_simp; done) | rfl⟩) (by assumption) ?_
      simp only [Act.put, List.getElem_toArray, List.getElem_cons_succ, List.getElem_cons_zero, List.setIfInBounds_toArray, List.set_cons_succ, List.set_cons_zero]
      refine wpAnyH_take (i := 7) (v := .pointer (some ⟨c, 0, none⟩)) rfl (by kernel_rfl) (by kernel_rfl) (by kernel_rfl) (fun _ _ _ h => h) (Or.inl ⟨by kernel_rfl, fun w hSw => by first | (go_simp; done) | (dsimp only at hSw; obtain ⟨hS0⟩ := hSw; go_simp; done) | rfl⟩) (by assumption) ?_
      simp only [Act.put, List.getElem_toArray, List.getElem_cons_succ, List.getElem_cons_zero, List.setIfInBounds_toArray, List.set_cons_succ, List.set_cons_zero]
      refine wpAnyH_ready (rs := [6, 8]) (by kernel_rfl) (by simp) ?_
      refine AllReadyH.cons rfl (fun K hK => ?_) (AllReadyH.cons rfl (fun K hK => ?_) (AllReadyH.nil))
      · go_simp
        refine hK.out _ _ ?_ (fun hHeld2 => ?_)
        · trivial
        clear hK K hHeld
        have hHeld := hHeld2
        clear hHeld2
        refine wpAnyH_ready (rs := [8]) (by kernel_rfl) (by simp) ?_
        refine AllReadyH.cons rfl (fun K hK => ?_) (AllReadyH.nil)
        go_simp
        refine hK.out _ _ ?_ (fun hHeld2 => ?_)
        · trivial
        clear hK K hHeld
        have hHeld := hHeld2
        clear hHeld2
        refine wpAnyH_ready (rs := [9]) (by kernel_rfl) (by simp) ?_
        refine AllReadyH.cons rfl (fun K hK => ?_) (AllReadyH.nil)
        go_simp
        go_wp2_with (go_at_call 29; (with_reducible refine (HPK.out ()).mono ?_); rintro e w10 ⟨⟨x, rfl, -⟩, C10, M10⟩; obtain ⟨z1, z2⟩ := HFZ.out w10 M10; have RA10 := HRA.out w10 M10; have K10 := K9a.trans (Kb.moved M10))
        refine hK.out _ _ ?_ (fun hHeld2 => ?_)
        · trivial
        clear hK K hHeld
        have hHeld := hHeld2
        clear hHeld2
        refine wpAnyH_take (i := 10) (v := .int .i64 (IntKind.i64.wrap (dv + x))) rfl (by kernel_rfl) (by kernel_rfl) (by kernel_rfl) (fun _ _ _ h => h) (Or.inl ⟨by kernel_rfl, fun w hSw => by first | (go_simp; done) | (dsimp only at hSw; obtain ⟨hS0⟩ := hSw; go_simp; done) | rfl⟩) (by assumption) ?_
        simp only [Act.put, List.getElem_toArray, List.getElem_cons_succ, List.getElem_cons_zero, List.setIfInBounds_toArray, List.set_cons_succ, List.set_cons_zero]
        refine wpAnyH_take (i := 11) (v := .pointer (some ⟨g, i * 4, none⟩)) rfl (by kernel_rfl) (by kernel_rfl) (by kernel_rfl) (fun _ _ _ h => h) (Or.inl ⟨by kernel_rfl, fun w hSw => by first | (go_simp; done) | (dsimp only at hSw; obtain ⟨hS0⟩ := hSw; go_simp; done) | rfl⟩) (by assumption) ?_
        simp only [Act.put, List.getElem_toArray, List.getElem_cons_succ, List.getElem_cons_zero, List.setIfInBounds_toArray, List.set_cons_succ, List.set_cons_zero]
        refine wpAnyH_take (i := 12) (v := .pointer (some ⟨g, i * 4 + 1, none⟩)) rfl (by kernel_rfl) (by kernel_rfl) (by kernel_rfl) (fun _ _ _ h => h) (Or.inl ⟨by kernel_rfl, fun w hSw => by first | (go_simp; done) | (dsimp only at hSw; obtain ⟨hS0⟩ := hSw; go_simp; done) | rfl⟩) (by assumption) ?_
        simp only [Act.put, List.getElem_toArray, List.getElem_cons_succ, List.getElem_cons_zero, List.setIfInBounds_toArray, List.set_cons_succ, List.set_cons_zero]
        refine wpAnyH_ready (rs := [13]) (by kernel_rfl) (by simp) ?_
        refine AllReadyH.cons rfl (fun K hK => ?_) AllReadyH.nil
        go_simp
        refine hK.out _ _ ?_ (fun hHeld2 => ?_)
        · trivial
        clear hK K hHeld
        have hHeld := hHeld2
        clear hHeld2
        refine wpAnyH_done (by kernel_rfl) ?_ _
        clear hHeld
        have RZ := RA10.day hi3 (IntKind.i64.wrap (dv + x))
        have CZ : Is W0 a n cap c (w10.setCell ⟨g, i * 4 + 1, none⟩ (.int .i64 (IntKind.i64.wrap (dv + x)))) := C10.set g _ _ hgc (by omega)
        have KZ : Kb c w (w10.setCell ⟨g, i * 4 + 1, none⟩ (.int .i64 (IntKind.i64.wrap (dv + x)))) := K10.set g _ _ hg1
        have HLN : Hid ((rs.set i ⟨rs[i].tr, IntKind.i64.wrap (dv + x), rs[i].fr, rs[i].to⟩).length = rs.length) := List.length_set
        clear z1 z2 q1 q2 RA10 C10 K10
        go_wp2
        go_ret
        exact ⟨⟨rs.set i ⟨rs[i].tr, IntKind.i64.wrap (dv + x), rs[i].fr, rs[i].to⟩, _, rc, by rw [HLN.out] <;> rfl, RZ, by rw [HLN.out]; exact hr1, by rw [HLN.out]; exact hr66⟩, CZ, KZ⟩
      · go_simp
        refine hK.out _ _ ?_ (fun hHeld2 => ?_)
        · trivial
        clear hK K hHeld
        have hHeld := hHeld2
        clear hHeld2
        refine wpAnyH_ready (rs := [6, 9]) (by kernel_rfl) (by simp) ?_
        refine AllReadyH.cons rfl (fun K hK => ?_) (AllReadyH.cons rfl (fun K hK => ?_) (AllReadyH.nil))
        · go_simp
          refine hK.out _ _ ?_ (fun hHeld2 => ?_)
          · trivial
          clear hK K hHeld
          have hHeld := hHeld2
          clear hHeld2
          refine wpAnyH_ready (rs := [9]) (by kernel_rfl) (by simp) ?_
          refine AllReadyH.cons rfl (fun K hK => ?_) (AllReadyH.nil)
          go_simp
          go_wp2_with (go_at_call 29; (with_reducible refine (HPK.out ()).mono ?_); rintro e w10 ⟨⟨x, rfl, -⟩, C10, M10⟩; obtain ⟨z1, z2⟩ := HFZ.out w10 M10; have RA10 := HRA.out w10 M10; have K10 := K9a.trans (Kb.moved M10))
          refine hK.out _ _ ?_ (fun hHeld2 => ?_)
          · trivial
          clear hK K hHeld
          have hHeld := hHeld2
          clear hHeld2
          refine wpAnyH_take (i := 10) (v := .int .i64 (IntKind.i64.wrap (dv + x))) rfl (by kernel_rfl) (by kernel_rfl) (by kernel_rfl) (fun _ _ _ h => h) (Or.inl ⟨by kernel_rfl, fun w hSw => by first | (go_simp; done) | (dsimp only at hSw; obtain ⟨hS0⟩ := hSw; go_simp; done) | rfl⟩) (by assumption) ?_
          simp only [Act.put, List.getElem_toArray, List.getElem_cons_succ, List.getElem_cons_zero, List.setIfInBounds_toArray, List.set_cons_succ, List.set_cons_zero]
          refine wpAnyH_take (i := 11) (v := .pointer (some ⟨g, i * 4, none⟩)) rfl (by kernel_rfl) (by kernel_rfl) (by kernel_rfl) (fun _ _ _ h => h) (Or.inl ⟨by kernel_rfl, fun w hSw => by first | (go_simp; done) | (dsimp only at hSw; obtain ⟨hS0⟩ := hSw; go_simp; done) | rfl⟩) (by assumption) ?_
          simp only [Act.put, List.getElem_toArray, List.getElem_cons_succ, List.getElem_cons_zero, List.setIfInBounds_toArray, List.set_cons_succ, List.set_cons_zero]
          refine wpAnyH_take (i := 12) (v := .pointer (some ⟨g, i * 4 + 1, none⟩)) rfl (by kernel_rfl) (by kernel_rfl) (by kernel_rfl) (fun _ _ _ h => h) (Or.inl ⟨by kernel_rfl, fun w hSw => by first | (go_simp; done) | (dsimp only at hSw; obtain ⟨hS0⟩ := hSw; go_simp; done) | rfl⟩) (by assumption) ?_
          simp only [Act.put, List.getElem_toArray, List.getElem_cons_succ, List.getElem_cons_zero, List.setIfInBounds_toArray, List.set_cons_succ, List.set_cons_zero]
          refine wpAnyH_ready (rs := [13]) (by kernel_rfl) (by simp) ?_
          refine AllReadyH.cons rfl (fun K hK => ?_) AllReadyH.nil
          go_simp
          refine hK.out _ _ ?_ (fun hHeld2 => ?_)
          · trivial
          clear hK K hHeld
          have hHeld := hHeld2
          clear hHeld2
          refine wpAnyH_done (by kernel_rfl) ?_ _
          clear hHeld
          have RZ := RA10.day hi3 (IntKind.i64.wrap (dv + x))
          have CZ : Is W0 a n cap c (w10.setCell ⟨g, i * 4 + 1, none⟩ (.int .i64 (IntKind.i64.wrap (dv + x)))) := C10.set g _ _ hgc (by omega)
          have KZ : Kb c w (w10.setCell ⟨g, i * 4 + 1, none⟩ (.int .i64 (IntKind.i64.wrap (dv + x)))) := K10.set g _ _ hg1
          have HLN : Hid ((rs.set i ⟨rs[i].tr, IntKind.i64.wrap (dv + x), rs[i].fr, rs[i].to⟩).length = rs.length) := List.length_set
          clear z1 z2 q1 q2 RA10 C10 K10
          go_wp2
          go_ret
          exact ⟨⟨rs.set i ⟨rs[i].tr, IntKind.i64.wrap (dv + x), rs[i].fr, rs[i].to⟩, _, rc, by rw [HLN.out] <;> rfl, RZ, by rw [HLN.out]; exact hr1, by rw [HLN.out]; exact hr66⟩, CZ, KZ⟩
        · go_simp
          go_wp2_with (go_at_call 29; (with_reducible refine (HPK.out ()).mono ?_); rintro e w10 ⟨⟨x, rfl, -⟩, C10, M10⟩; obtain ⟨z1, z2⟩ := HFZ.out w10 M10; have RA10 := HRA.out w10 M10; have K10 := K9a.trans (Kb.moved M10))
          refine hK.out _ _ ?_ (fun hHeld2 => ?_)
          · trivial
          clear hK K hHeld
          have hHeld := hHeld2
          clear hHeld2
          refine wpAnyH_ready (rs := [6]) (by kernel_rfl) (by simp) ?_
          refine AllReadyH.cons rfl (fun K hK => ?_) (AllReadyH.nil)
          go_simp
          refine hK.out _ _ ?_ (fun hHeld2 => ?_)
          · trivial
          clear hK K hHeld
          have hHeld := hHeld2
          clear hHeld2
          refine wpAnyH_take (i := 10) (v := .int .i64 (IntKind.i64.wrap (dv + x))) rfl (by kernel_rfl) (by kernel_rfl) (by kernel_rfl) (fun _ _ _ h => h) (Or.inl ⟨by kernel_rfl, fun w hSw => by first | (go_simp; done) | (dsimp only at hSw; obtain ⟨hS0⟩ := hSw; go_simp; done) | rfl⟩) (by assumption) ?_
          simp only [Act.put, List.getElem_toArray, List.getElem_cons_succ, List.getElem_cons_zero, List.setIfInBounds_toArray, List.set_cons_succ, List.set_cons_zero]
          refine wpAnyH_take (i := 11) (v := .pointer (some ⟨g, i * 4, none⟩)) rfl (by kernel_rfl) (by kernel_rfl) (by kernel_rfl) (fun _ _ _ h => h) (Or.inl ⟨by kernel_rfl, fun w hSw => by first | (go_simp; done) | (dsimp only at hSw; obtain ⟨hS0⟩ := hSw; go_simp; done) | rfl⟩) (by assumption) ?_
          simp only [Act.put, List.getElem_toArray, List.getElem_cons_succ, List.getElem_cons_zero, List.setIfInBounds_toArray, List.set_cons_succ, List.set_cons_zero]
          refine wpAnyH_take (i := 12) (v := .pointer (some ⟨g, i * 4 + 1, none⟩)) rfl (by kernel_rfl) (by kernel_rfl) (by kernel_rfl) (fun _ _ _ h => h) (Or.inl ⟨by kernel_rfl, fun w hSw => by first | (go_simp; done) | (dsimp only at hSw; obtain ⟨hS0⟩ := hSw; go_simp; done) | rfl⟩) (by assumption) ?_
          simp only [Act.put, List.getElem_toArray, List.getElem_cons_succ, List.getElem_cons_zero, List.setIfInBounds_toArray, List.set_cons_succ, List.set_cons_zero]
          refine wpAnyH_ready (rs := [13]) (by kernel_rfl) (by simp) ?_
          refine AllReadyH.cons rfl (fun K hK => ?_) AllReadyH.nil
          go_simp
          refine hK.out _ _ ?_ (fun hHeld2 => ?_)
          · trivial
          clear hK K hHeld
          have hHeld := hHeld2
          clear hHeld2
          refine wpAnyH_done (by kernel_rfl) ?_ _
          clear hHeld
          have RZ := RA10.day hi3 (IntKind.i64.wrap (dv + x))
          have CZ : Is W0 a n cap c (w10.setCell ⟨g, i * 4 + 1, none⟩ (.int .i64 (IntKind.i64.wrap (dv + x)))) := C10.set g _ _ hgc (by omega)
          have KZ : Kb c w (w10.setCell ⟨g, i * 4 + 1, none⟩ (.int .i64 (IntKind.i64.wrap (dv + x)))) := K10.set g _ _ hg1
          have HLN : Hid ((rs.set i ⟨rs[i].tr, IntKind.i64.wrap (dv + x), rs[i].fr, rs[i].to⟩).length = rs.length) := List.length_set
          clear z1 z2 q1 q2 RA10 C10 K10
          go_wp2
          go_ret
          exact ⟨⟨rs.set i ⟨rs[i].tr, IntKind.i64.wrap (dv + x), rs[i].fr, rs[i].to⟩, _, rc, by rw [HLN.out] <;> rfl, RZ, by rw [HLN.out]; exact hr1, by rw [HLN.out]; exact hr66⟩, CZ, KZ⟩

end Rd
end Go.Proofs.YtaplbjoghkipdaaDoor

/- Edges, and what ways over them cost, as mathematics: what the program's and the model's functions of chapter 7 answer. -/
namespace Go.Proofs.YtaplbjoghkipdaaDoor
namespace Tf

def inB (x a b : Int) : Bool := decide (a ≤ x) && decide (x ≤ b)

/-- An edge is right. -/
def edB (e : Ed) : Bool := inB e.ea 1 9999 && (inB e.eb 1 9999 && (!(e.ea == e.eb) && inB e.co 0 1000000))

/-- A tariff is right. -/
def tarB (l : List Ed) : Bool := decide (l.length ≤ 200) && l.all edB

theorem inB_is {x a b : Int} (h : inB x a b = true) : a ≤ x ∧ x ≤ b := by
  unfold inB at h
  simp at h
  exact h

theorem ed_is {e : Ed} (h : edB e = true) : 1 ≤ e.ea ∧ e.ea ≤ 9999 ∧ 1 ≤ e.eb ∧ e.eb ≤ 9999 ∧ e.ea ≠ e.eb ∧ 0 ≤ e.co ∧ e.co ≤ 1000000 := by
  unfold edB inB at h
  simp at h
  omega

theorem tar_is {l : List Ed} (h : tarB l = true) : l.length ≤ 200 ∧ ∀ e ∈ l, edB e = true := by
  unfold tarB at h
  simp at h
  exact h

/-- The other end of an edge of a station, or 0; whether the edge has the station. -/
def oth (e : Ed) (s : Int) : Int := if e.ea = s then e.eb else if e.eb = s then e.ea else 0
def hasS (e : Ed) (s : Int) : Bool := e.ea == s || e.eb == s

theorem oth_has {e : Ed} (h : edB e = true) (s b : Int) : (hasS e s && (oth e s == b)) = (!(b == 0) && (oth e s == b)) := by
  have := ed_is h
  unfold hasS oth
  by_cases h1 : e.ea = s
  · simp [h1]
    intro h2 h3
    omega
  · by_cases h2 : e.eb = s
    · simp [h1, h2]
      intro h2 h3
      omega
    · have e1 : (e.ea == s) = false := beq_eq_false_iff_ne.2 h1
      have e2 : (e.eb == s) = false := beq_eq_false_iff_ne.2 h2
      rw [if_neg h1, if_neg h2, e1, e2]
      by_cases hb : b = 0
      · subst hb; rfl
      · have e3 : ((0 : Int) == b) = false := beq_eq_false_iff_ne.2 (fun h => hb h.symm)
        simp [e3]

/-- The cheapest edge between two so far: -1 where there is none. -/
def leS (a b acc : Int) (e : Ed) : Int := if (hasS e a && (oth e a == b)) = true ∧ (acc = -1 ∨ e.co < acc) then e.co else acc
def leV (l : List Ed) (a b : Int) : Int := l.foldl (leS a b) (-1)

theorem leS_lo {a b acc : Int} {e : Ed} (h : edB e = true) (ha : -1 ≤ acc ∧ acc ≤ 1000000) : -1 ≤ leS a b acc e ∧ leS a b acc e ≤ 1000000 := by
  have := ed_is h
  unfold leS
  split <;> omega

theorem leF_lo {a b : Int} : ∀ (l : List Ed) (acc : Int), (∀ e ∈ l, edB e = true) → -1 ≤ acc ∧ acc ≤ 1000000 → -1 ≤ l.foldl (leS a b) acc ∧ l.foldl (leS a b) acc ≤ 1000000
  | [], _, _, h => h
  | e :: r, acc, he, h => leF_lo r _ (fun x hx => he x (by simp [hx])) (leS_lo (he e (by simp)) h)

theorem leV_lo (l : List Ed) (a b : Int) (h : ∀ e ∈ l, edB e = true) : -1 ≤ leV l a b ∧ leV l a b ≤ 1000000 := leF_lo l _ h ⟨by omega, by omega⟩

theorem leF_step (l : List Ed) (a b acc : Int) (k : Nat) (hk : k < l.length) : (l.drop k).foldl (leS a b) acc = (l.drop (k + 1)).foldl (leS a b) (leS a b acc l[k]) := by
  rw [List.drop_eq_getElem_cons hk, List.foldl_cons]

/-- What a way costs, of which so much has been paid. -/
def costF (l : List Ed) : Int → List Int → Int
  | s, a :: b :: r => if leV l a b = -1 then -1 else costF l (s + leV l a b) (b :: r)
  | s, _ => s

theorem costF_stop (l : List Ed) (s : Int) (z : List Int) (k : Nat) (hk : z.length ≤ k + 1) : costF l s (z.drop k) = s := by
  have h : (z.drop k).length ≤ 1 := by rw [List.length_drop]; omega
  match z.drop k, h with
  | [], _ => rfl
  | [_], _ => rfl

theorem costF_no (l : List Ed) (s : Int) (z : List Int) (k : Nat) (hk : k + 1 < z.length) (h : leV l z[k] z[k + 1] = -1) : costF l s (z.drop k) = -1 := by
  rw [List.drop_eq_getElem_cons (by omega), List.drop_eq_getElem_cons hk]
  simp [costF, h]

theorem costF_go (l : List Ed) (s : Int) (z : List Int) (k : Nat) (hk : k + 1 < z.length) (h : leV l z[k] z[k + 1] ≠ -1) : costF l s (z.drop k) = costF l (s + leV l z[k] z[k + 1]) (z.drop (k + 1)) := by
  rw [List.drop_eq_getElem_cons (by omega : k < z.length), List.drop_eq_getElem_cons hk]
  simp [costF, h]

def wayC (l : List Ed) (z : List Int) : Int := if tarB l = true ∧ z ≠ [] then costF l 0 z else -1

/-- How many of hundred parts are paid. -/
def rateV (c d : Int) : Int :=
  if c = 1 then (if d = 0 then 160 else if d = 1 then 120 else if d = 2 ∨ d = 3 then 80 else -1)
  else if c = 2 then (if d = 0 then 100 else if d = 1 then 75 else if d = 2 ∨ d = 3 then 50 else -1)
  else -1

/-- What is kept of a price. -/
def feeV (p d : Int) : Int :=
  if ¬ (0 ≤ p ∧ p ≤ 10000000) then -1 else if 8 ≤ d then 0 else if 1 ≤ d then (p + 3) / 4 else if d = 0 then (p + 1) / 2 else p

end Tf
end Go.Proofs.YtaplbjoghkipdaaDoor

/- The cheapest way, as mathematics: ways over edges, which of two is ahead, and what a search that goes out from the first of its open ways comes to. -/
namespace Go.Proofs.YtaplbjoghkipdaaDoor
namespace Tf

/-- A way: what it costs, and its stations. -/
structure Wy where
  c : Int
  s : List Int

theorem Wy.ext' {x y : Wy} (h1 : x.c = y.c) (h2 : x.s = y.s) : x = y := by cases x; cases y; simp_all

def endW (w : Wy) : Int := w.s.getLastD 0
/-- A way with one edge more. -/
def ovr (w : Wy) (co n : Int) : Wy := ⟨w.c + co, w.s ++ [n]⟩

theorem end_ovr (w : Wy) (co n : Int) : endW (ovr w co n) = n := by simp [endW, ovr]

/-- Lists of numbers compared one by one. -/
def lexL : List Int → List Int → Bool
  | [], [] => false
  | [], _ :: _ => true
  | _ :: _, [] => false
  | a :: r, b :: t => decide (a < b) || (decide (a = b) && lexL r t)

theorem lex_irr : ∀ l : List Int, lexL l l = false
  | [] => rfl
  | a :: r => by simp [lexL, lex_irr r]

theorem lex_trans : ∀ {a b c : List Int}, lexL a b = true → lexL b c = true → lexL a c = true
  | [], [], c, h, _ => by simp [lexL] at h
  | [], _ :: _, [], _, h => by simp [lexL] at h
  | [], _ :: _, _ :: _, _, _ => rfl
  | _ :: _, [], _, h, _ => by simp [lexL] at h
  | _ :: _, _ :: _, [], _, h => by simp [lexL] at h
  | x :: a, y :: b, z :: c, h1, h2 => by
    simp [lexL] at h1 h2 ⊢
    rcases h1 with h1 | ⟨h1, h1'⟩ <;> rcases h2 with h2 | ⟨h2, h2'⟩
    · left; omega
    · left; omega
    · left; omega
    · right; exact ⟨by omega, lex_trans h1' h2'⟩

theorem lex_tot : ∀ {a b : List Int}, lexL a b = false → lexL b a = false → a = b
  | [], [], _, _ => rfl
  | [], _ :: _, h, _ => by simp [lexL] at h
  | _ :: _, [], _, h => by simp [lexL] at h
  | x :: a, y :: b, h1, h2 => by
    simp [lexL] at h1 h2
    have e : x = y := by omega
    subst e
    rw [lex_tot (h1.2 rfl) (h2.2 rfl)]

theorem lex_snoc : ∀ {a b : List Int} (n : Int), a.length = b.length → lexL (a ++ [n]) (b ++ [n]) = lexL a b
  | [], [], n, _ => by simp [lexL]
  | x :: a, y :: b, n, h => by
    simp only [List.cons_append, lexL]
    rw [lex_snoc n (by simpa using h)]

/-- Whether a way is ahead of another: cheaper, or with fewer stations, or coming first. -/
def ahead (x y : Wy) : Bool := lexL (x.c :: (x.s.length : Int) :: x.s) (y.c :: (y.s.length : Int) :: y.s)

def le (x y : Wy) : Prop := ahead y x = false

theorem ahead_irr (x : Wy) : ahead x x = false := lex_irr _
theorem le_refl (x : Wy) : le x x := ahead_irr x
theorem ahead_trans {x y z : Wy} (h1 : ahead x y = true) (h2 : ahead y z = true) : ahead x z = true := lex_trans h1 h2
theorem le_of_ahead {x y : Wy} (h : ahead x y = true) : le x y := by
  unfold le
  cases e : ahead y x
  · rfl
  · have := ahead_trans h e
    rw [ahead_irr] at this
    cases this
theorem le_anti {x y : Wy} (h1 : le x y) (h2 : le y x) : x = y := by
  have := lex_tot h2 h1
  simp at this
  exact Wy.ext' this.1 this.2.2
theorem le_total (x y : Wy) : le x y ∨ le y x := by
  cases e : ahead y x
  · exact Or.inl e
  · exact Or.inr (le_of_ahead e)
theorem le_trans {x y z : Wy} (h1 : le x y) (h2 : le y z) : le x z := by
  unfold le
  cases e : ahead z x
  · rfl
  · cases e2 : ahead y x
    · cases e3 : ahead x y
      · have : x = y := le_anti e2 e3
        subst this
        unfold le at h2
        rw [e] at h2
        cases h2
      · have h4 := ahead_trans e e3
        unfold le at h2
        rw [h4] at h2
        cases h2
    · unfold le at h1
      rw [e2] at h1
      cases h1

theorem ahead_ovr (x y : Wy) (co n : Int) : ahead (ovr x co n) (ovr y co n) = ahead x y := by
  unfold ahead ovr
  simp only [lexL, List.length_append, List.length_cons, List.length_nil]
  by_cases h : x.s.length = y.s.length
  · rw [lex_snoc n h]
    have e1 : decide (x.c + co < y.c + co) = decide (x.c < y.c) := by simp
    have e2 : decide (x.c + co = y.c + co) = decide (x.c = y.c) := by simp
    rw [e1, e2, h]
    simp
  · have e0 : decide (((x.s.length : Nat) : Int) = (y.s.length : Int)) = false := by simp; omega
    have e3 : decide (((x.s.length + (0 + 1) : Nat) : Int) = ((y.s.length + (0 + 1) : Nat) : Int)) = false := by simp; omega
    have e1 : decide (x.c + co < y.c + co) = decide (x.c < y.c) := by simp
    have e2 : decide (x.c + co = y.c + co) = decide (x.c = y.c) := by simp
    have e4 : decide (((x.s.length + (0 + 1) : Nat) : Int) < ((y.s.length + (0 + 1) : Nat) : Int)) = decide (((x.s.length : Nat) : Int) < (y.s.length : Int)) := by
      by_cases h' : x.s.length < y.s.length
      · rw [decide_eq_true (by omega), decide_eq_true (by omega)]
      · rw [decide_eq_false (by omega), decide_eq_false (by omega)]
    rw [e0, e1, e2, e3, e4]
    simp

theorem le_ovr {x y : Wy} (h : le x y) (co n : Int) : le (ovr x co n) (ovr y co n) := by
  unfold le
  rw [ahead_ovr]
  exact h

theorem le_more (x : Wy) (co n : Int) (h : 0 ≤ co) : le x (ovr x co n) := by
  apply le_of_ahead
  unfold ahead ovr
  simp [lexL]
  omega

/-- The ways out of a over edges of E. -/
inductive isWay (E : List Ed) (a : Int) : Wy → Prop
  | nil : isWay E a ⟨0, [a]⟩
  | step {w : Wy} {e : Ed} : isWay E a w → e ∈ E → hasS e (endW w) = true → isWay E a (ovr w e.co (oth e (endW w)))

/-- The best way out of a to s. -/
def isBest (E : List Ed) (a s : Int) (g : Wy) : Prop := isWay E a g ∧ endW g = s ∧ ∀ w, isWay E a w → endW w = s → le g w

theorem best_one {E : List Ed} {a s : Int} {g h : Wy} (h1 : isBest E a s g) (h2 : isBest E a s h) : g = h :=
  le_anti (h1.2.2 h h2.1 h2.2.1) (h2.2.2 g h1.1 h1.2.1)

/-- A search: G the stations that it has gone on from, with their ways; O its open ways. -/
structure Inv (E : List Ed) (a : Int) (G : Int → Option Wy) (O : Wy → Prop) : Prop where
  ways : ∀ o, O o → isWay E a o
  best : ∀ s g, G s = some g → isBest E a s g
  edge : ∀ s g e, G s = some g → e ∈ E → hasS e s = true → (G (oth e s)).isSome = true ∨ ∃ o, O o ∧ endW o = oth e s ∧ le o (ovr g e.co (oth e s))
  start : (G a).isSome = true ∨ ∃ o, O o ∧ endW o = a ∧ le o ⟨0, [a]⟩

theorem inv_start (E : List Ed) (a : Int) (O : Wy → Prop) (h : ∀ o, O o ↔ o = ⟨0, [a]⟩) : Inv E a (fun _ => none) O where
  ways := fun o ho => by rw [(h o).1 ho]; exact isWay.nil
  best := fun s g hg => by cases hg
  edge := fun s g e hg => by cases hg
  start := Or.inr ⟨_, (h _).2 rfl, by simp [endW], le_refl _⟩

/-- Each way is behind an open one, or ends where the search has been. -/
theorem Inv.cover {E : List Ed} {a : Int} {G : Int → Option Wy} {O : Wy → Prop} (I : Inv E a G O) (hE : ∀ e ∈ E, edB e = true) {w : Wy} (hw : isWay E a w) :
    (G (endW w)).isSome = true ∨ ∃ o, O o ∧ G (endW o) = none ∧ le o w := by
  induction hw with
  | nil =>
    have e : endW ⟨0, [a]⟩ = a := by simp [endW]
    rw [e]
    rcases I.start with h | ⟨o, h1, h2, h3⟩
    · exact Or.inl h
    · cases hg : G a
      · exact Or.inr ⟨o, h1, by rw [h2]; exact hg, h3⟩
      · exact Or.inl rfl
  | @step w e hw he hs ih =>
    rw [end_ovr]
    have hc : 0 ≤ e.co := (ed_is (hE e he)).2.2.2.2.2.1
    rcases ih with h | ⟨o, h1, h2, h3⟩
    · obtain ⟨g, hg⟩ := Option.isSome_iff_exists.1 h
      have hb := I.best _ _ hg
      have hle := hb.2.2 w hw rfl
      rcases I.edge _ g e hg he hs with h | ⟨o, h1, h2, h3⟩
      · exact Or.inl h
      · cases hg2 : G (oth e (endW w))
        · exact Or.inr ⟨o, h1, by rw [h2]; exact hg2, le_trans h3 (le_ovr hle _ _)⟩
        · exact Or.inl rfl
    · exact Or.inr ⟨o, h1, h2, le_trans h3 (le_more _ _ _ hc)⟩

/-- The first of the open ways is the best one to where it ends. -/
theorem Inv.pop {E : List Ed} {a : Int} {G : Int → Option Wy} {O : Wy → Prop} (I : Inv E a G O) (hE : ∀ e ∈ E, edB e = true) {m : Wy} (hm : O m) (hG : G (endW m) = none) (hmin : ∀ o, O o → le m o) : isBest E a (endW m) m := by
  refine ⟨I.ways m hm, rfl, fun w hw he => ?_⟩
  rcases I.cover hE hw with h | ⟨o, h1, -, h3⟩
  · rw [he, hG] at h
    cases h
  · exact le_trans (hmin o h1) h3

/-- With nothing open there is no way to where the search has not been. -/
theorem Inv.none {E : List Ed} {a b : Int} {G : Int → Option Wy} {O : Wy → Prop} (I : Inv E a G O) (hE : ∀ e ∈ E, edB e = true) (hO : ∀ o, ¬ O o) (hb : G b = none) : ∀ w, isWay E a w → endW w ≠ b := by
  intro w hw he
  rcases I.cover hE hw with h | ⟨o, h1, -, -⟩
  · rw [he, hb] at h
    cases h
  · exact hO o h1

def setG (G : Int → Option Wy) (s : Int) (m : Wy) : Int → Option Wy := fun k => if k = s then some m else G k

theorem setG_same (G : Int → Option Wy) (s : Int) (m : Wy) : setG G s m s = some m := by simp [setG]
theorem setG_other (G : Int → Option Wy) {s k : Int} (m : Wy) (h : k ≠ s) : setG G s m k = G k := by simp [setG, h]
theorem setG_some (G : Int → Option Wy) (s : Int) (m : Wy) {k : Int} (h : (G k).isSome = true) : (setG G s m k).isSome = true := by
  unfold setG
  split
  · rfl
  · exact h

/-- The search goes on from m. -/
theorem Inv.next {E : List Ed} {a : Int} {G : Int → Option Wy} {O O' : Wy → Prop} (I : Inv E a G O) {m : Wy} (hb : isBest E a (endW m) m)
    (h1 : ∀ o, O' o → isWay E a o) (h2 : ∀ o, O o → (setG G (endW m) m (endW o)).isSome = true ∨ ∃ o', O' o' ∧ endW o' = endW o ∧ le o' o)
    (h3 : ∀ e ∈ E, hasS e (endW m) = true → (setG G (endW m) m (oth e (endW m))).isSome = true ∨ ∃ o', O' o' ∧ endW o' = oth e (endW m) ∧ le o' (ovr m e.co (oth e (endW m)))) :
    Inv E a (setG G (endW m) m) O' where
  ways := h1
  best := fun s g hg => by
    by_cases e : s = endW m
    · subst e
      rw [setG_same] at hg
      cases hg
      exact hb
    · rw [setG_other G m e] at hg
      exact I.best s g hg
  edge := fun s g e hg he hs => by
    by_cases e1 : s = endW m
    · subst e1
      rw [setG_same] at hg
      cases hg
      exact h3 e he hs
    · rw [setG_other G m e1] at hg
      rcases I.edge s g e hg he hs with h | ⟨o, k1, k2, k3⟩
      · exact Or.inl (setG_some G _ m h)
      · rcases h2 o k1 with h | ⟨o', j1, j2, j3⟩
        · exact Or.inl (by rw [← k2]; exact h)
        · exact Or.inr ⟨o', j1, by rw [j2, k2], le_trans j3 k3⟩
  start := by
    rcases I.start with h | ⟨o, k1, k2, k3⟩
    · exact Or.inl (setG_some G _ m h)
    · rcases h2 o k1 with h | ⟨o', j1, j2, j3⟩
      · exact Or.inl (by rw [← k2]; exact h)
      · exact Or.inr ⟨o', j1, by rw [j2, k2], le_trans j3 k3⟩

/-- A way that ends where the search has been is left. -/
theorem Inv.skip {E : List Ed} {a : Int} {G : Int → Option Wy} {O O' : Wy → Prop} (I : Inv E a G O) (h1 : ∀ o, O' o → O o) (h2 : ∀ o, O o → (G (endW o)).isSome = true ∨ O' o) : Inv E a G O' where
  ways := fun o h => I.ways o (h1 o h)
  best := I.best
  edge := fun s g e hg he hs => by
    rcases I.edge s g e hg he hs with h | ⟨o, k1, k2, k3⟩
    · exact Or.inl h
    · rcases h2 o k1 with h | h
      · exact Or.inl (by rw [← k2]; exact h)
      · exact Or.inr ⟨o, h, k2, k3⟩
  start := by
    rcases I.start with h | ⟨o, k1, k2, k3⟩
    · exact Or.inl h
    · rcases h2 o k1 with h | h
      · exact Or.inl (by rw [← k2]; exact h)
      · exact Or.inr ⟨o, h, k2, k3⟩

/-- The stations that there are. -/
def stn (E : List Ed) (a : Int) : List Int := a :: E.flatMap fun e => [e.ea, e.eb]

theorem stn_length (E : List Ed) (a : Int) : (stn E a).length = 2 * E.length + 1 := by
  unfold stn
  rw [List.length_cons]
  congr 1
  induction E with
  | nil => rfl
  | cons e r ih => simp at ih ⊢; omega

theorem way_end {E : List Ed} {a : Int} {w : Wy} (h : isWay E a w) : endW w ∈ stn E a := by
  cases h with
  | nil => simp [endW, stn]
  | @step w e hw he hs =>
    rw [end_ovr]
    refine List.mem_cons_of_mem _ (List.mem_flatMap.2 ⟨e, he, ?_⟩)
    unfold hasS at hs
    unfold oth
    by_cases h1 : e.ea = endW w
    · simp [h1]
    · by_cases h2 : e.eb = endW w
      · simp [h1, h2]
      · simp [h1, h2] at hs

theorem way_ok {E : List Ed} {a : Int} (ha : 1 ≤ a ∧ a ≤ 9999) (hE : ∀ e ∈ E, edB e = true) {w : Wy} (h : isWay E a w) : 1 ≤ endW w ∧ endW w ≤ 9999 := by
  have := way_end h
  unfold stn at this
  rcases List.mem_cons.1 this with h | h
  · rw [h]; exact ha
  · obtain ⟨e, he, hm⟩ := List.mem_flatMap.1 h
    have := ed_is (hE e he)
    simp at hm
    rcases hm with h | h <;> rw [h] <;> omega

theorem way_ne {E : List Ed} {a : Int} {w : Wy} (h : isWay E a w) : 0 < w.s.length := by
  cases h with
  | nil => simp
  | step => simp [ovr]

/-- How many stations the search has not gone on from. -/
def lft (U : List Int) (G : Int → Option Wy) : Nat := (U.filter fun s => (G s).isNone).length

theorem lft_le (U : List Int) (G : Int → Option Wy) : lft U G ≤ U.length := List.length_filter_le _ _

theorem lft_set : ∀ (U : List Int) (G : Int → Option Wy) (s : Int) (m : Wy), s ∈ U → G s = none → lft U (setG G s m) < lft U G := by
  have mono : ∀ (U : List Int) (G : Int → Option Wy) (s : Int) (m : Wy), lft U (setG G s m) ≤ lft U G := by
    intro U G s m
    unfold lft
    induction U with
    | nil => simp
    | cons x r ih =>
      by_cases e : x = s
      · subst e
        rw [List.filter_cons_of_neg (by simp [setG])]
        rw [List.filter_cons]
        split
        · simp; omega
        · exact ih
      · simp only [List.filter_cons, setG_other G m e]
        split
        · simp; exact ih
        · exact ih
  intro U G s m hs hg
  induction U with
  | nil => simp at hs
  | cons x r ih =>
    by_cases e : x = s
    · subst e
      have h1 := mono r G x m
      unfold lft at h1 ⊢
      rw [List.filter_cons_of_neg (by simp [setG]), List.filter_cons_of_pos (by simp [hg])]
      simp
      omega
    · have h2 := ih ((List.mem_cons.1 hs).resolve_left fun h => e h.symm)
      unfold lft at h2 ⊢
      simp only [List.filter_cons, setG_other G m e]
      split
      · simp; exact h2
      · exact h2

end Tf
end Go.Proofs.YtaplbjoghkipdaaDoor

/- The model's search, as mathematics: what its rounds keep. -/
namespace Go.Proofs.YtaplbjoghkipdaaDoor
namespace Tf

theorem ahead_is (x y : Wy) : ahead x y = if x.c ≠ y.c then decide (x.c < y.c) else if x.s.length ≠ y.s.length then decide ((x.s.length : Int) < (y.s.length : Int)) else lexL x.s y.s := by
  have e : ahead x y = (decide (x.c < y.c) || (decide (x.c = y.c) && (decide ((x.s.length : Int) < (y.s.length : Int)) || (decide ((x.s.length : Int) = (y.s.length : Int)) && lexL x.s y.s)))) := by simp only [ahead, lexL]
  rw [e]
  by_cases h1 : x.c = y.c
  · rw [if_neg (fun h => h h1), decide_eq_true h1, decide_eq_false (by omega : ¬ x.c < y.c)]
    by_cases h2 : x.s.length = y.s.length
    · rw [if_neg (fun h => h h2), decide_eq_true (by omega : (x.s.length : Int) = (y.s.length : Int)), decide_eq_false (by omega : ¬ (x.s.length : Int) < (y.s.length : Int))]
      rfl
    · rw [if_pos h2, decide_eq_false (by omega : ¬ (x.s.length : Int) = (y.s.length : Int))]
      simp
  · rw [if_pos h1, decide_eq_false h1]
    simp

theorem lex_here {a b : List Int} {k : Nat} (h1 : k < a.length) (h2 : k < b.length) (hne : a[k] ≠ b[k]) : lexL (a.drop k) (b.drop k) = decide (a[k] < b[k]) := by
  rw [List.drop_eq_getElem_cons h1, List.drop_eq_getElem_cons h2]
  simp [lexL, hne]

theorem lex_on {a b : List Int} {k : Nat} (h1 : k < a.length) (h2 : k < b.length) (he : a[k] = b[k]) : lexL (a.drop k) (b.drop k) = lexL (a.drop (k + 1)) (b.drop (k + 1)) := by
  rw [List.drop_eq_getElem_cons h1, List.drop_eq_getElem_cons h2]
  simp [lexL, he]

theorem lex_end {a b : List Int} {k : Nat} (h1 : a.length ≤ k) (h : a.length = b.length) : lexL (a.drop k) (b.drop k) = false := by
  rw [List.drop_eq_nil_of_le h1, List.drop_eq_nil_of_le (by omega)]
  rfl

/-- One edge more on the list of open ways. -/
def pushS (d : List Int) (m : Wy) (l : List Wy) (e : Ed) : List Wy := if oth e (endW m) ≠ 0 ∧ oth e (endW m) ∉ d then l ++ [ovr m e.co (oth e (endW m))] else l
def pushF (d : List Int) (m : Wy) (l : List Wy) (E : List Ed) : List Wy := E.foldl (pushS d m) l

theorem push_take (d : List Int) (m : Wy) (l : List Wy) (E : List Ed) (k : Nat) (hk : k < E.length) : pushF d m l (E.take (k + 1)) = pushS d m (pushF d m l (E.take k)) E[k] := by
  unfold pushF
  rw [List.take_add_one, List.getElem?_eq_getElem hk, List.foldl_append]
  rfl

theorem push_len (d : List Int) (m : Wy) : ∀ (E : List Ed) (l : List Wy), (pushF d m l E).length ≤ l.length + E.length
  | [], l => by simp [pushF]
  | e :: r, l => by
    have := push_len d m r (pushS d m l e)
    have h2 : (pushS d m l e).length ≤ l.length + 1 := by
      unfold pushS
      split
      · simp
      · omega
    show (pushF d m (pushS d m l e) r).length ≤ _
    simp
    omega

theorem push_old (d : List Int) (m : Wy) : ∀ (E : List Ed) (l : List Wy) {o : Wy}, o ∈ l → o ∈ pushF d m l E
  | [], _, _, h => h
  | e :: r, l, o, h => push_old d m r (pushS d m l e) (by
    unfold pushS
    split
    · simp [h]
    · exact h)

theorem push_new (d : List Int) (m : Wy) : ∀ (E : List Ed) (l : List Wy) {e : Ed}, e ∈ E → oth e (endW m) ≠ 0 → oth e (endW m) ∉ d → ovr m e.co (oth e (endW m)) ∈ pushF d m l E
  | [], _, _, h, _, _ => by simp at h
  | x :: r, l, e, h, h1, h2 => by
    rcases List.mem_cons.1 h with h | h
    · subst h
      exact push_old d m r _ (by unfold pushS; rw [if_pos ⟨h1, h2⟩]; simp)
    · exact push_new d m r _ h h1 h2

theorem push_src (d : List Int) (m : Wy) : ∀ (E : List Ed) (l : List Wy) {o : Wy}, o ∈ pushF d m l E → o ∈ l ∨ ∃ e ∈ E, oth e (endW m) ≠ 0 ∧ oth e (endW m) ∉ d ∧ o = ovr m e.co (oth e (endW m))
  | [], _, _, h => Or.inl h
  | e :: r, l, o, h => by
    rcases push_src d m r (pushS d m l e) h with h1 | ⟨x, h1, h2⟩
    · unfold pushS at h1
      split at h1
      · rename_i hc
        rcases List.mem_append.1 h1 with h1 | h1
        · exact Or.inl h1
        · exact Or.inr ⟨e, by simp, hc.1, hc.2, by simpa using h1⟩
      · exact Or.inl h1
    · exact Or.inr ⟨x, by simp [h1], h2⟩

theorem oth_hasS {e : Ed} {s : Int} (h : edB e = true) : hasS e s = true ↔ oth e s ≠ 0 := by
  have := ed_is h
  unfold hasS oth
  by_cases h1 : e.ea = s
  · simp [h1]; omega
  · by_cases h2 : e.eb = s
    · simp [h1, h2]; omega
    · simp [h1, h2]

/-- What the rounds of the model's search keep. -/
structure JSt (E : List Ed) (a : Int) (l : List Wy) (d : List Int) (G : Int → Option Wy) : Prop where
  inv : Inv E a G (fun o => o ∈ l)
  done : ∀ s, (G s).isSome = true ↔ s ∈ d
  bd : ∀ o, o ∈ l → o.s.length ≤ d.length + 1 ∧ 0 ≤ o.c ∧ o.c ≤ 1000000 * (d.length : Int)
  clock : d.length + lft (stn E a) G ≤ (stn E a).length

theorem jst_start (E : List Ed) (a : Int) : JSt E a [⟨0, [a]⟩] [] (fun _ => none) where
  inv := inv_start E a _ fun o => by simp
  done := fun s => by simp
  bd := fun o h => by
    simp at h
    subst h
    simp
  clock := by
    have := lft_le (stn E a) (fun _ => none)
    simp
    omega

theorem JSt.pop {E : List Ed} {a : Int} {l : List Wy} {d : List Int} {G : Int → Option Wy} (S : JSt E a l d G) (hE : ∀ e ∈ E, edB e = true) {m : Wy} (hm : m ∈ l) (hmin : ∀ o ∈ l, le m o) (hd : endW m ∉ d) : isBest E a (endW m) m :=
  S.inv.pop hE hm (by
    cases h : G (endW m)
    · rfl
    · exact (hd ((S.done _).1 (by rw [h]; rfl))).elim) hmin

/-- A list without its k-th. -/
def cutAt (l : List Wy) (k : Nat) : List Wy := l.take k ++ l.drop (k + 1)

theorem mem_cut {l : List Wy} {k : Nat} {o : Wy} (h : o ∈ cutAt l k) : o ∈ l := by
  rcases List.mem_append.1 h with h | h
  · exact List.mem_of_mem_take h
  · exact List.mem_of_mem_drop h

theorem cut_mem {l : List Wy} {k : Nat} (hk : k < l.length) {o : Wy} (h : o ∈ l) : o = l[k] ∨ o ∈ cutAt l k := by
  obtain ⟨i, hi, rfl⟩ := List.getElem_of_mem h
  rcases Nat.lt_trichotomy i k with h1 | h1 | h1
  · right
    refine List.mem_append.2 (Or.inl ?_)
    rw [List.mem_take_iff_getElem]
    exact ⟨i, by omega, rfl⟩
  · subst h1
    exact Or.inl rfl
  · right
    refine List.mem_append.2 (Or.inr ?_)
    rw [List.mem_drop_iff_getElem]
    exact ⟨i - (k + 1), by omega, by congr 1; omega⟩

theorem cut_len {l : List Wy} {k : Nat} (hk : k < l.length) : (cutAt l k).length + 1 = l.length := by
  unfold cutAt
  simp
  omega

theorem JSt.skip {E : List Ed} {a : Int} {l : List Wy} {d : List Int} {G : Int → Option Wy} (S : JSt E a l d G) {k : Nat} (hk : k < l.length) (hd : endW l[k] ∈ d) : JSt E a (cutAt l k) d G where
  inv := S.inv.skip (fun o h => mem_cut h) (fun o h => by
    rcases cut_mem hk h with h1 | h1
    · left
      rw [h1]
      exact (S.done _).2 hd
    · exact Or.inr h1)
  done := S.done
  bd := fun o h => S.bd o (mem_cut h)
  clock := S.clock

theorem JSt.next {E : List Ed} {a : Int} {l : List Wy} {d : List Int} {G : Int → Option Wy} (S : JSt E a l d G) (hE : ∀ e ∈ E, edB e = true) {k : Nat} (hk : k < l.length) (hmin : ∀ o ∈ l, le l[k] o) (hd : endW l[k] ∉ d) :
    JSt E a (pushF (d ++ [endW l[k]]) l[k] (cutAt l k) E) (d ++ [endW l[k]]) (setG G (endW l[k]) l[k]) := by
  have hm : l[k] ∈ l := List.getElem_mem hk
  have hb := S.pop hE hm hmin hd
  have hbd := S.bd _ hm
  generalize hmm : l[k] = m at *
  have hG : ∀ s, (setG G (endW m) m s).isSome = true ↔ s ∈ d ++ [endW m] := by
    intro s
    by_cases e : s = endW m
    · subst e
      rw [setG_same]
      simp
    · rw [setG_other G m e, S.done s]
      simp [e]
  refine ⟨?_, hG, ?_, ?_⟩
  · refine S.inv.next hb ?_ ?_ ?_
    · intro o ho
      rcases push_src _ _ _ _ ho with h | ⟨e, he, h1, -, rfl⟩
      · exact S.inv.ways o (mem_cut h)
      · exact isWay.step hb.1 he ((oth_hasS (hE e he)).2 h1)
    · intro o ho
      rcases cut_mem hk ho with h | h
      · left
        rw [h, hmm, setG_same]
        rfl
      · exact Or.inr ⟨o, push_old _ _ _ _ h, rfl, le_refl _⟩
    · intro e he hs
      by_cases hin : oth e (endW m) ∈ d ++ [endW m]
      · exact Or.inl ((hG _).2 hin)
      · exact Or.inr ⟨_, push_new _ _ _ _ he ((oth_hasS (hE e he)).1 hs) hin, end_ovr _ _ _, le_refl _⟩
  · intro o ho
    rcases push_src _ _ _ _ ho with h | ⟨e, he, -, -, rfl⟩
    · have := S.bd o (mem_cut h)
      simp
      omega
    · have := ed_is (hE e he)
      simp [ovr]
      omega
  · have h1 : endW m ∈ stn E a := way_end hb.1
    have hg0 : G (endW m) = none := by
      cases h : G (endW m)
      · rfl
      · exact (hd ((S.done _).1 (by rw [h]; rfl))).elim
    have h2 := lft_set (stn E a) G (endW m) m h1 hg0
    have := S.clock
    simp
    omega

theorem JSt.none {E : List Ed} {a b : Int} {d : List Int} {G : Int → Option Wy} (S : JSt E a [] d G) (hE : ∀ e ∈ E, edB e = true) (hb : b ∉ d) : ∀ w, isWay E a w → endW w ≠ b :=
  S.inv.none hE (fun o h => by simp at h) (by
    cases h : G b
    · rfl
    · exact (hb ((S.done _).1 (by rw [h]; rfl))).elim)

end Tf
end Go.Proofs.YtaplbjoghkipdaaDoor

/- Contracts of the laws' own helpers over slices of numbers: a copy, two held against each other, marked and held against the marks. -/
namespace Go.Proofs.YtaplbjoghkipdaaDoor
namespace Tf
open Go.ChangeShapes Go.WideShapes Go.ChangeAt Go.RowKit
open Pk (new_below join_below cell_at heap_new frozen_at lt_of kept info_of own_form own_below Drawn Room)
set_option linter.unusedSimpArgs false
set_option linter.unusedVariables false

/-- A slice of numbers. -/
def Ints (w : World) (a : Option Addr) (zs : List Int) : Prop := zs = [] ∨ ∃ b o, a = some ⟨b, o, none⟩ ∧ b < w.heap.size ∧ ∀ i (hi : i < zs.length), w.cell? ⟨b, o + i, none⟩ = some (.int .i64 zs[i])

theorem Ints.on {w w1 : World} {a : Option Addr} {zs : List Int} (h : Ints w a zs) (hb : Below w.heap.size w w1) : Ints w1 a zs := by
  rcases h with h | ⟨b, o, ha, hlt, hc⟩
  · exact Or.inl h
  · exact Or.inr ⟨b, o, ha, Nat.lt_of_lt_of_le hlt hb.size, fun i hi => by rw [hb.cell (p := ⟨b, o + i, none⟩) hlt]; exact hc i hi⟩

theorem Ints.at {w : World} {a : Option Addr} {zs : List Int} (h : Ints w a zs) (i : Nat) (hi : i < zs.length) : ∃ b o, a = some ⟨b, o, none⟩ ∧ b < w.heap.size ∧ w.cell? ⟨b, o + i, none⟩ = some (.int .i64 zs[i]) := by
  rcases h with h | ⟨b, o, ha, hlt, hc⟩
  · subst h; simp at hi
  · exact ⟨b, o, ha, hlt, hc i hi⟩

theorem intInfo : (Tryd.prog.info? 3).map (fun i => (i.zero, i.size, i.bytes)) = some (some (.int .i64 0), 1, 8) := by kernel_rfl

/-- The first k cells of block g hold the numbers; all n can be written. -/
def Filled (w : World) (g n k : Nat) (zs : List Int) : Prop := ∀ j, j < n → (∃ v, w.cell? ⟨g, j, none⟩ = some v) ∧ w.frozen? ⟨g, j, none⟩ = false ∧ (j < k → w.cell? ⟨g, j, none⟩ = some (.int .i64 (zs.getD j 0)))

theorem Filled.step {w : World} {g n k : Nat} {zs : List Int} (h : Filled w g n k zs) : Filled (w.setCell ⟨g, k, none⟩ (.int .i64 (zs.getD k 0))) g n (k + 1) zs := by
  intro j hj
  obtain ⟨⟨v, hv⟩, hf, hc⟩ := h j hj
  by_cases e : j = k
  · subst e
    refine ⟨⟨_, World.cell?_setCell_same _ _ _ hv⟩, by rw [World.frozen?_setCell]; exact hf, fun _ => World.cell?_setCell_same _ _ _ hv⟩
  · have hne : (⟨g, j, none⟩ : Addr) ≠ ⟨g, k, none⟩ := by simp [e]
    refine ⟨⟨v, by rw [World.cell?_setCell_other _ _ _ _ (by simp [e])]; exact hv⟩, by rw [World.frozen?_setCell]; exact hf, fun hk => ?_⟩
    rw [World.cell?_setCell_other _ _ _ _ (by simp [e])]
    exact hc (by omega)

theorem Filled.ints {w : World} {g : Nat} {zs : List Int} (h : Filled w g zs.length zs.length zs) (hg : g < w.heap.size) : Ints w (some ⟨g, 0, none⟩) zs := by
  refine Or.inr ⟨g, 0, rfl, hg, fun i hi => ?_⟩
  have := (h i hi).2.2 hi
  rw [Nat.zero_add, this, List.getD_eq_getElem?_getD, List.getElem?_eq_getElem hi]
  rfl

theorem Filled.made {w : World} {g n : Nat} {cur : Array Value} {t : TypeId} {zs : List Int} (h : w.heap[g]? = some (.cells cur t (0, 0))) (hs : cur.size = n) : Filled w g n 0 zs := by
  intro j hj
  refine ⟨⟨cur[j], ?_⟩, frozen_at h j, fun hk => by omega⟩
  rw [cell_at h j]
  exact Array.getElem?_eq_getElem (by omega)

/-- What came in as a row, as a slice of numbers. -/
theorem ints_row {w : World} {x : Addr} {len : Nat} {zs : List Int} (hl : len ≤ zs.length) (hc : ∀ i, i < zs.length → w.cell? (x.add i) = some (.int .i64 (zs.getD i 0))) : ∃ ys : List Int, ys.length = len ∧ Ints w (some x) ys := by
  by_cases h0 : len = 0
  · exact ⟨[], h0.symm, Or.inl rfl⟩
  obtain ⟨b, o, spot⟩ := x
  have hs := World.cell?_spot (hc 0 (by omega))
  simp [Addr.add] at hs
  subst hs
  refine ⟨zs.take len, by rw [List.length_take]; omega, Or.inr ⟨b, o, rfl, ?_, fun i hi => ?_⟩⟩
  · have h1 := hc 0 (by omega)
    apply Nat.lt_of_not_le
    intro hle
    unfold World.cell? at h1
    simp [Addr.add, Array.getElem?_eq_none hle] at h1
  · rw [List.length_take] at hi
    have h1 := hc i (by omega)
    rw [show Addr.add ⟨b, o, none⟩ i = ⟨b, o + i, none⟩ by simp [Addr.add]] at h1
    rw [h1, List.getElem_take, List.getD_eq_getElem?_getD, List.getElem?_eq_getElem (by omega)]
    rfl

end Tf
end Go.Proofs.YtaplbjoghkipdaaDoor

/- The model's l07Before and l07Has. -/
namespace Go.Proofs.YtaplbjoghkipdaaDoor
namespace Tf
open Go.ChangeShapes Go.WideShapes Go.ChangeAt Go.RowKit
open Pk (new_below join_below cell_at heap_new frozen_at lt_of kept heap_old Drawn info_of)
set_option linter.unusedSimpArgs false
set_option linter.unusedVariables false

/-- A way of the model as a value. -/
def Ws (w : World) (v : Value) (o : Wy) : Prop := ∃ g cap, v = .agg #[.slice (some ⟨g, 0, none⟩) o.s.length cap, .int .i64 o.c] ∧ g < w.heap.size ∧ 0 < o.s.length ∧ ∀ i (h : i < o.s.length), w.cell? ⟨g, i, none⟩ = some (.int .i64 o.s[i])

theorem Ws.on {w w1 : World} {v : Value} {o : Wy} (h : Ws w v o) (L : Below w.heap.size w w1) : Ws w1 v o := by
  obtain ⟨g, cap, rfl, hg, hn, hc⟩ := h
  exact ⟨g, cap, rfl, Nat.lt_of_lt_of_le hg L.size, hn, fun i hi => (L.cell (p := ⟨g, i, none⟩) hg).trans (hc i hi)⟩

end Tf
end Go.Proofs.YtaplbjoghkipdaaDoor

/- Contracts of cmp.Compare, slices.Compare and cmp.Or over numbers. -/
namespace Go.Proofs.YtaplbjoghkipdaaDoor
namespace Tf
open Go.ChangeShapes Go.WideShapes Go.ChangeAt Go.RowKit
open Pk (new_below join_below cell_at heap_new frozen_at lt_of kept heap_old Drawn info_of)
set_option linter.unusedSimpArgs false
set_option linter.unusedVariables false

def cmpV (x y : Int) : Int := if x < y then -1 else if y < x then 1 else 0
def lexV : List Int → List Int → Int
  | [], [] => 0
  | [], _ :: _ => -1
  | _ :: _, [] => 1
  | a :: r, b :: t => if cmpV a b = 0 then lexV r t else cmpV a b
def orV : List Int → Int
  | [] => 0
  | a :: r => if a = 0 then orV r else a

theorem lexV_neg : ∀ (a b : List Int), decide (lexV a b < 0) = lexL a b
  | [], [] => rfl
  | [], _ :: _ => rfl
  | _ :: _, [] => rfl
  | x :: a, y :: b => by
    unfold lexV lexL
    have ih := lexV_neg a b
    unfold cmpV
    by_cases h1 : x < y
    · rw [if_pos h1, if_neg (by omega)]
      simp [h1]
    · by_cases h2 : y < x
      · rw [if_neg h1, if_pos h2, if_neg (by omega)]
        have h3 : ¬ x = y := by omega
        simp [h1, h3]
      · have h3 : x = y := by omega
        subst h3
        have e : (if x < x then (-1 : Int) else if x < x then 1 else 0) = 0 := by simp
        rw [if_pos e, ih]
        simp

theorem or_lex (a b c : Int) : orV [a, b, c] = if a = 0 then (if b = 0 then c else b) else a := by
  simp only [orV]
  by_cases h1 : a = 0
  · rw [if_pos h1, if_pos h1]
    by_cases h2 : b = 0
    · rw [if_pos h2, if_pos h2]
      by_cases h3 : c = 0
      · rw [if_pos h3, h3]
      · rw [if_neg h3]
    · rw [if_neg h2, if_neg h2]
  · rw [if_neg h1, if_neg h1]

theorem ahead_or (x y : Wy) : decide (orV [cmpV x.c y.c, cmpV (x.s.length : Int) (y.s.length : Int), lexV x.s y.s] < 0) = ahead x y := by
  unfold ahead
  rw [← lexV_neg, or_lex]
  rfl

end Tf
end Go.Proofs.YtaplbjoghkipdaaDoor

/- Contracts of TariffOk and of what it calls, of the program and of its model. -/
namespace Go.Proofs.YtaplbjoghkipdaaDoor
namespace Tf
open Go.ChangeShapes Go.WideShapes Go.ChangeAt Go.RowKit
open Pk (new_below join_below cell_at heap_new frozen_at lt_of kept heap_old)
set_option linter.unusedSimpArgs false
set_option linter.unusedVariables false

abbrev edO (p : Ed) (ty : TypeId) : Obj := .cells #[.int .i64 p.ea, .int .i64 p.eb, .int .i64 p.co] ty

theorem between_val (x a b : Int) (w : World) :
    Calls Tryd.prog 16 #[.int .i64 x, .int .i64 a, .int .i64 b] w fun e w' => e = .returned (.bool (inB x a b)) ∧ w' = w := by
  by_cases h1 : a ≤ x <;> by_cases h2 : x ≤ b
  all_goals
    go_enter Tryd.func16, Tryd.ntmps16
    go_wp2
    go_ret
    exact ⟨by simp [inB, h1, h2], rfl⟩

theorem in_val (x a b : Int) (w : World) :
    Calls Tryd.prog 32 #[.int .i64 x, .int .i64 a, .int .i64 b] w fun e w' => e = .returned (.bool (inB x a b)) ∧ w' = w := by
  by_cases h1 : a ≤ x <;> by_cases h2 : x ≤ b
  all_goals
    go_enter Tryd.func32, Tryd.ntmps32
    go_wp2
    go_ret
    exact ⟨by simp [inB, h1, h2], rfl⟩

theorem station_val (x : Int) (w : World) :
    Calls Tryd.prog 58 #[.int .i64 x] w fun e w' => e = .returned (.bool (inB x 1 9999)) ∧ w' = w := by
  go_enter Tryd.func58, Tryd.ntmps58
  go_wp2_with fail
  refine (in_val x 1 9999 w).mono ?_
  rintro e w1 ⟨rfl, rfl⟩
  go_wp2
  go_ret
  exact ⟨rfl, rfl⟩

end Tf
end Go.Proofs.YtaplbjoghkipdaaDoor

/- The program's ways as values: where they end, which of two is ahead, one with an edge more. -/
namespace Go.Proofs.YtaplbjoghkipdaaDoor
namespace Tf
open Go.ChangeShapes Go.WideShapes Go.ChangeAt Go.RowKit
open Pk (new_below join_below cell_at heap_new frozen_at lt_of kept heap_old Drawn info_of)
set_option linter.unusedSimpArgs false
set_option linter.unusedVariables false
variable {bs : Nat}

/-- A block that is new since bs, and may be written. -/
def Nw (bs : Nat) (w : World) (g : Nat) : Prop := bs ≤ g ∧ g < w.heap.size ∧ ∀ i, w.frozen? ⟨g, i, none⟩ = false

theorem Nw.of_block {w w1 : World} {g : Nat} (h : Nw bs w g) (hs : w.heap.size ≤ w1.heap.size) (hb : w1.heap[g]? = w.heap[g]?) : Nw bs w1 g :=
  ⟨h.1, Nat.lt_of_lt_of_le h.2.1 hs, fun i => (World.frozen?_of_block (a := ⟨g, i, none⟩) hb).trans (h.2.2 i)⟩

/-- A way as a value: its stations lie in a block of their own. -/
def Wv (bs : Nat) (w : World) (v : Value) (o : Wy) : Prop := ∃ g cap, v = .agg #[.int .i64 o.c, .slice (some ⟨g, 0, none⟩) o.s.length cap] ∧ Nw bs w g ∧ 0 < o.s.length ∧ ∀ i (h : i < o.s.length), w.cell? ⟨g, i, none⟩ = some (.int .i64 o.s[i])

theorem Wv.on {w w1 : World} {v : Value} {o : Wy} (h : Wv bs w v o) (L : Below w.heap.size w w1) : Wv bs w1 v o := by
  obtain ⟨g, cap, rfl, hg, hn, hc⟩ := h
  exact ⟨g, cap, rfl, hg.of_block L.size (L.block g hg.2.1), hn, fun i hi => (L.cell (p := ⟨g, i, none⟩) hg.2.1).trans (hc i hi)⟩

theorem Wv.base {b' : Nat} {w : World} {v : Value} {o : Wy} (h : Wv bs w v o) (hb : b' ≤ bs) : Wv b' w v o := by
  obtain ⟨g, cap, rfl, hg, hn, hc⟩ := h
  exact ⟨g, cap, rfl, ⟨Nat.le_trans hb hg.1, hg.2⟩, hn, hc⟩

theorem end_at {o : Wy} {n : Nat} (h : o.s.length = n + 1) : endW o = o.s[n]'(by omega) := by
  unfold endW
  rw [List.getLastD_eq_getLast?, List.getLast?_eq_getElem?]
  have e : o.s[o.s.length - 1]? = some (o.s[n]'(by omega)) := by
    rw [show o.s.length - 1 = n by omega]
    exact List.getElem?_eq_getElem _
  rw [e]
  rfl

theorem Wv.ints {w : World} {o : Wy} {g cap : Nat} (hg : g < w.heap.size) (hc : ∀ i (h : i < o.s.length), w.cell? ⟨g, i, none⟩ = some (.int .i64 o.s[i])) : Ints w (some ⟨g, 0, none⟩) o.s :=
  Or.inr ⟨g, 0, rfl, hg, fun i hi => by rw [Nat.zero_add]; exact hc i hi⟩

end Tf
end Go.Proofs.YtaplbjoghkipdaaDoor

/- The program's way with an edge more. -/
namespace Go.Proofs.YtaplbjoghkipdaaDoor
namespace Tf
open Go.ChangeShapes Go.WideShapes Go.ChangeAt Go.RowKit
open Pk (new_below join_below cell_at heap_new frozen_at lt_of kept heap_old Drawn info_of)
set_option linter.unusedSimpArgs false
set_option linter.unusedVariables false
variable {bs : Nat}

theorem wp_make {P : Program} {w : World} {o : Oper} {a : Act} {K : Act → World → Prop} {Q : Exit → Act → World → Prop} (l c : Operand) (t : TypeId) (ho : o.op = .makeSlice t l c)
    (base : Nat) (e : TypeId) (i : TypeInfo) (z : Value) (size : Nat) (ht : P.underlying t = some (.slice e)) (hi : P.info? e = some i) (hz : i.zero = some z) (hsize : i.size = size)
    (kl kc : IntKind) (C : Int) (n : Nat) (hl : a.eval l = .int kl 0) (hc : a.eval c = .int kc C) (hC : C = (n : Int)) (hb : i.bytes * n ≤ 281474976710656) (h63 : n ≤ maxLen) (hbase : base ≤ w.heap.size)
    (h : ∀ w', w'.ownsRow base e size (.slice (some ⟨w.heap.size, 0, none⟩) 0 n) 0 [] → w.grownBy w' none → K (a.put o.dst (.slice (some ⟨w.heap.size, 0, none⟩) 0 n)) w') : o.wp P a w K Q := by
  obtain ⟨w', hrun, h1, h2⟩ := run_make_own (P := P) w base t e i z size ht hi hz hsize kl kc n hb h63 hbase
  subst hC
  unfold Oper.wp
  simp [execOp, ho, hl, hc, hrun, Result.andThen]
  exact h w' h1 h2

/-- The cells of numbers. -/
def zc (l : List Int) : List Value := l.map fun z => .int .i64 z

theorem zc_length (l : List Int) : (zc l).length = l.length := by simp [zc]
theorem zc_one (l : List Int) : ∀ u ∈ zc l, u.oneCell' = true := by
  intro u hu
  obtain ⟨z, -, rfl⟩ := List.mem_map.1 hu
  rfl
theorem add0 (g j : Nat) : Addr.add ⟨g, 0, none⟩ j = ⟨g, j, none⟩ := by simp [Addr.add]; exact Eq.symm
theorem zc_at {w : World} {g : Nat} {l : List Int} (h : ∀ i (h : i < l.length), w.cell? ⟨g, i, none⟩ = some (.int .i64 l[i])) : ∀ j u, (zc l)[j]? = some u → w.cell? (Addr.add ⟨g, 0, none⟩ j) = some u := by
  intro j u hu
  simp only [zc, List.getElem?_map, Option.map_eq_some_iff] at hu
  obtain ⟨z, hz, rfl⟩ := hu
  obtain ⟨hj, rfl⟩ := List.getElem?_eq_some_iff.1 hz
  rw [add0]
  exact h j hj
theorem one_at {w : World} {g : Nat} {v : Value} {t : TypeId} (m : w.heap[g]? = some (.cells #[v] t (0, 0))) : ∀ j u, [v][j]? = some u → w.cell? (Addr.add ⟨g, 0, none⟩ j) = some u := by
  intro j u hu
  obtain ⟨hj, rfl⟩ := List.getElem?_eq_some_iff.1 hu
  have : j = 0 := by simp at hj; omega
  subst this
  rw [add0]
  exact cell_at m 0

theorem own_wv {w : World} {base g cap : Nat} {o : Wy} {n : Nat} (h : w.ownsRow base 3 1 (.slice (some ⟨g, 0, none⟩) n cap) n (zc o.s)) (hn : o.s.length = n) (h0 : 0 < n) : Wv base w (.agg #[.int .i64 o.c, .slice (some ⟨g, 0, none⟩) n cap]) o := by
  subst hn
  have hfz : ∀ i, w.frozen? ⟨g, i, none⟩ = false := by
    obtain ⟨-, h2⟩ := h
    rcases h2 with ⟨hv, -⟩ | ⟨g', cap', cur, hv, -, hh, -⟩
    · cases hv
    · simp only [Value.slice.injEq, Option.some.injEq, Addr.mk.injEq] at hv
      rw [hv.1.1]
      exact frozen_at hh
  obtain ⟨g', cap', hv, hbg, hlt⟩ := h.form h0
  simp only [Value.slice.injEq, Option.some.injEq, Addr.mk.injEq] at hv
  obtain ⟨⟨rfl, -⟩, -, rfl⟩ := hv
  refine ⟨g, cap, rfl, ⟨hbg, hlt, hfz⟩, h0, fun i hi => ?_⟩
  obtain ⟨g2, cap2, e2, -, -, u, hu, hc⟩ := Pk.own_at h i hi
  simp only [Value.slice.injEq, Option.some.injEq, Addr.mk.injEq] at e2
  rw [e2.1.1, hc, ← hu]
  simp [zc, List.getElem?_eq_getElem hi]

end Tf
end Go.Proofs.YtaplbjoghkipdaaDoor

/- Rows that the model's search owns: its open ways, their stations, the stations it has gone on from. -/
namespace Go.Proofs.YtaplbjoghkipdaaDoor
namespace Tf
open Go.ChangeShapes Go.WideShapes Go.ChangeAt Go.RowKit
open Pk (new_below join_below cell_at heap_new frozen_at lt_of kept heap_old Drawn info_of)
set_option linter.unusedSimpArgs false
set_option linter.unusedVariables false

/-- An open way of the model: where its stations lie, and itself. -/
structure Pw where
  g : Nat
  cap : Nat
  o : Wy

abbrev Pw.v (p : Pw) : Value := .slice (some ⟨p.g, 0, none⟩) p.o.s.length p.cap

def wcells (ps : List Pw) : List Value := ps.flatMap fun p => [p.v, .int .i64 p.o.c]

theorem wcells_length (ps : List Pw) : (wcells ps).length = ps.length * 2 := by
  induction ps with
  | nil => rfl
  | cons p r ih => simp [wcells] at ih ⊢; omega

theorem wcells_append (ps qs : List Pw) : wcells (ps ++ qs) = wcells ps ++ wcells qs := by simp [wcells]

theorem wcells_at : ∀ (ps : List Pw) (i : Nat) (h : i < ps.length), (wcells ps)[i * 2]? = some ps[i].v ∧ (wcells ps)[i * 2 + 1]? = some (.int .i64 ps[i].o.c)
  | p :: r, 0, _ => by simp [wcells]
  | p :: r, i + 1, h => by
    have := wcells_at r i (by simpa using h)
    have e1 : (i + 1) * 2 = i * 2 + 2 := by omega
    have e2 : (i + 1) * 2 + 1 = i * 2 + 1 + 2 := by omega
    simp only [wcells, List.flatMap_cons, e1, e2, List.getElem_cons_succ] at this ⊢
    exact this

theorem wcells_drop : ∀ (ps : List Pw) (k : Nat), wcells (ps.drop k) = (wcells ps).drop (k * 2)
  | ps, 0 => by simp
  | [], k + 1 => by simp [wcells]
  | p :: r, k + 1 => by
    rw [List.drop_succ_cons, wcells_drop r k]
    have e1 : (k + 1) * 2 = k * 2 + 1 + 1 := by omega
    rw [e1]
    simp [wcells]

theorem wcells_one (ps : List Pw) : ∀ u ∈ wcells ps, u.oneCell' = true := by
  intro u hu
  obtain ⟨p, -, h⟩ := List.mem_flatMap.1 hu
  simp at h
  rcases h with rfl | rfl <;> rfl

/-- The cells of an owned row. -/
theorem own_cells {w : World} {base e size g n cap : Nat} {xs : List Value} (h : w.ownsRow base e size (.slice (some ⟨g, 0, none⟩) n cap) n xs) (j : Nat) (u : Value) (hu : xs[j]? = some u) : w.cell? ⟨g, j, none⟩ = some u := by
  obtain ⟨hl, h2⟩ := h
  rcases h2 with ⟨hv, -⟩ | ⟨g', cap', cur, hv, hb, hh, h1, h3, h4, h5⟩
  · cases hv
  · simp only [Value.slice.injEq, Option.some.injEq, Addr.mk.injEq] at hv
    obtain ⟨⟨rfl, -⟩, -, rfl⟩ := hv
    rw [cell_at hh]
    have hj : j < xs.length := (List.getElem?_eq_some_iff.1 hu).1
    rw [← h5, List.getElem?_take, if_pos (by omega), Array.getElem?_toList] at hu
    exact hu

theorem own_kept {w w1 : World} {base e size n : Nat} {v : Value} {xs : List Value} {row : Option Nat} (h : w.ownsRow base e size v n xs) (G : w.grownBy w1 row) (hne : ∀ g, v.ownBlock = some g → row ≠ some g) : w1.ownsRow base e size v n xs := by
  obtain ⟨hl, h2⟩ := h
  refine ⟨hl, ?_⟩
  rcases h2 with h2 | ⟨g, cap, cur, hv, hb, hh, hr⟩
  · exact Or.inl h2
  · refine Or.inr ⟨g, cap, cur, hv, hb, ?_, hr⟩
    rw [G.block g (lt_of hh) (fun e => hne g (by rw [hv]; rfl) e.symm)]
    exact hh

theorem own_on' {w w1 : World} {B base e size n : Nat} {v : Value} {xs : List Value} (h : w.ownsRow base e size v n xs) (L : Below B w w1) (hB : w.heap.size ≤ B) : w1.ownsRow base e size v n xs := Pk.own_below h L hB

/-- Rows of two types lie apart. -/
theorem rows_apart {w : World} {b1 b2 e1 e2 s1 s2 n1 n2 : Nat} {v1 v2 : Value} {x1 x2 : List Value} (h1 : w.ownsRow b1 e1 s1 v1 n1 x1) (h2 : w.ownsRow b2 e2 s2 v2 n2 x2) (he : e1 ≠ e2) : ∀ g, v1.ownBlock = some g → v2.ownBlock ≠ some g := by
  intro g hg1 hg2
  obtain ⟨-, h1⟩ := h1
  obtain ⟨-, h2⟩ := h2
  rcases h1 with ⟨hv, -⟩ | ⟨g1, c1, cur1, hv1, -, hh1, -⟩
  · rw [hv] at hg1; cases hg1
  · rcases h2 with ⟨hv, -⟩ | ⟨g2, c2, cur2, hv2, -, hh2, -⟩
    · rw [hv] at hg2; cases hg2
    · rw [hv1] at hg1
      rw [hv2] at hg2
      simp only [Value.ownBlock, Option.some.injEq] at hg1 hg2
      subst hg1
      subst hg2
      rw [hh1] at hh2
      simp only [Option.some.injEq, Obj.cells.injEq] at hh2
      exact he hh2.2.1

theorem own_blt {w : World} {base e size n : Nat} {v : Value} {xs : List Value} (h : w.ownsRow base e size v n xs) {g : Nat} (hg : v.ownBlock = some g) : base ≤ g ∧ g < w.heap.size := h.lt g hg

/-- An owned row of no elements, laid new. -/
theorem own_empty (w : World) (base e size : Nat) (hb : base ≤ w.heap.size) : (w.alloc (.cells #[] e)).ownsRow base e size (.slice (some ⟨w.heap.size, 0, none⟩) 0 0) 0 [] :=
  ⟨by simp, Or.inr ⟨w.heap.size, 0, #[], rfl, hb, heap_new w _, by omega, by simp [maxLen], by simp, by simp⟩⟩

/-- The way of the model in an owned row. -/
theorem own_ws {w : World} {base : Nat} {p : Pw} (h : w.ownsRow base 3 1 p.v p.o.s.length (zc p.o.s)) (h0 : 0 < p.o.s.length) : Ws w (.agg #[p.v, .int .i64 p.o.c]) p.o := by
  obtain ⟨g', cap', hv, -, hlt⟩ := h.form h0
  simp only [Value.slice.injEq, Option.some.injEq, Addr.mk.injEq] at hv
  obtain ⟨⟨e1, -⟩, -, e3⟩ := hv
  refine ⟨p.g, p.cap, rfl, by rw [e1]; exact hlt, h0, fun i hi => own_cells h i _ ?_⟩
  simp [zc, List.getElem?_eq_getElem hi]

theorem own_ints {w : World} {base : Nat} {v : Value} {l : List Int} (h : w.ownsRow base 3 1 v l.length (zc l)) : ∃ a cap, v = .slice a l.length cap ∧ Ints w a l := by
  obtain ⟨a, cap, rfl, hx⟩ := Pk.own_form h
  refine ⟨a, cap, rfl, ?_⟩
  rcases hx with h0 | ⟨g, rfl⟩
  · exact Or.inl (List.eq_nil_of_length_eq_zero h0)
  · by_cases h0 : l.length = 0
    · exact Or.inl (List.eq_nil_of_length_eq_zero h0)
    · obtain ⟨g', cap', hv, -, hlt⟩ := h.form (by omega)
      simp only [Value.slice.injEq, Option.some.injEq, Addr.mk.injEq] at hv
      refine Or.inr ⟨g, 0, rfl, by rw [hv.1.1]; exact hlt, fun i hi => ?_⟩
      rw [Nat.zero_add]
      refine own_cells h i _ ?_
      simp [zc, List.getElem?_eq_getElem hi]

/-- 'append' at an operation, whatever is appended. -/
theorem wp_append_at {P : Program} {w : World} {o : Oper} {a : Act} {K : Act → World → Prop} {Q : Exit → Act → World → Prop} (s x : Operand) (t : TypeId)
    (ho : o.op = .call { callee := .builtin .append, args := #[s, x], argTypes := #[t, t] })
    (base : Nat) (e : TypeId) (i : TypeInfo) (z : Value) (size bytes : Nat) (ht : P.underlying t = some (.slice e)) (hi : P.info? e = some i) (hz : i.zero = some z)
    (hsize : i.size = size) (hby : i.bytes = bytes) (hzs : z.cells.size = size) (hsz : 0 < size)
    (v : Value) (n : Nat) (xs : List Value) (hs : a.eval s = v) (hown : w.ownsRow base e size v n xs)
    (ad : Addr) (m c : Nat) (news : List Value) (hx : a.eval x = .slice (some ad) m c) (hl : news.length = m * size) (hnews : ∀ j u, news[j]? = some u → w.cell? (ad.add j) = some u) (h1 : ∀ u ∈ news, u.oneCell' = true)
    (h63 : n + m ≤ maxLen) (hbytes : (n + m) * bytes ≤ 140737488355328) (hbase : base ≤ w.heap.size)
    (h : ∀ v' w', w'.ownsRow base e size v' (n + m) (xs ++ news) → w.grownBy w' v.ownBlock → (v'.ownBlock = v.ownBlock ∨ v'.ownBlock = some w.heap.size) → K (a.put o.dst v') w') : o.wp P a w K Q := by
  obtain ⟨v', w', hr, h2, h3, -, h5⟩ := run_append_own_at (P := P) w base t o.type e i z size bytes ht hi hz hsize hby hzs hsz v n xs hown ad m c news hl hnews h1 h63 hbytes hbase
  unfold Oper.wp execOp
  simp only [ho, resolve, invoke, builtin, Sem.run_bind, Sem.run_pure, Result.andThen_ok, List.map_toArray, List.map_cons, List.map_nil, hs, hx, hr]
  exact h v' w' h2 h3 h5

end Tf
end Go.Proofs.YtaplbjoghkipdaaDoor

/- Draws for the laws of the tariff: a list of edges, an end of a way. -/
namespace Go.Proofs.YtaplbjoghkipdaaDoor
namespace Tf
open Go.ChangeShapes Go.WideShapes Go.ChangeAt Go.RowKit
open Pk (new_below join_below cell_at heap_new frozen_at lt_of kept heap_old info_of own_form own_below Room)
open Cur (Is Moved Bytes Kb new_any once_any below_any pickInt_any rowOf_new)
set_option linter.unusedSimpArgs false
set_option linter.unusedVariables false

/-- The cells of edges. -/
def ecells (l : List Ed) : List Value := l.flatMap fun p => [.int .i64 p.ea, .int .i64 p.eb, .int .i64 p.co]

theorem ecells_cons (p : Ed) (l : List Ed) : ecells (p :: l) = .int .i64 p.ea :: .int .i64 p.eb :: .int .i64 p.co :: ecells l := by simp [ecells]

theorem ecells_snoc (l : List Ed) (p : Ed) : ecells l ++ [.int .i64 p.ea, .int .i64 p.eb, .int .i64 p.co] = ecells (l ++ [p]) := by simp [ecells]

theorem ecells_at (l : List Ed) (k : Nat) (p : Ed) (h : l[k]? = some p) : (ecells l)[k * 3]? = some (.int .i64 p.ea) ∧ (ecells l)[k * 3 + 1]? = some (.int .i64 p.eb) ∧ (ecells l)[k * 3 + 2]? = some (.int .i64 p.co) := by
  induction l generalizing k with
  | nil => simp at h
  | cons q l ih =>
    rw [ecells_cons]
    cases k with
    | zero =>
      simp at h
      subst h
      exact ⟨rfl, rfl, rfl⟩
    | succ k =>
      have h' : l[k]? = some p := by simpa using h
      obtain ⟨h0, h1, h2⟩ := ih k h'
      rw [show (k + 1) * 3 = k * 3 + 3 by omega, show k * 3 + 3 + 1 = k * 3 + 1 + 3 by omega, show k * 3 + 3 + 2 = k * 3 + 2 + 3 by omega]
      exact ⟨by simpa using h0, by simpa using h1, by simpa using h2⟩

/-- Edges in a row of one's own. -/
theorem edges_own {w : World} {base : Nat} {a : Option Addr} {cap : Nat} {l : List Ed} (h : w.ownsRow base 95 3 (.slice a l.length cap) l.length (ecells l)) : Edges w a l := by
  by_cases h0 : l = []
  · exact Or.inl h0
  · have hpos : 0 < l.length := List.length_pos_iff.2 h0
    obtain ⟨g, rfl, hg⟩ : ∃ g, a = some ⟨g, 0, none⟩ ∧ g < w.heap.size := by
      rcases h.2 with ⟨-, h9⟩ | ⟨g, cap', cur, hv, hg, hh, -⟩
      · omega
      · simp only [Value.slice.injEq] at hv
        exact ⟨g, hv.1, lt_of hh⟩
    refine Or.inr ⟨g, 0, rfl, hg, fun i hi => ?_⟩
    obtain ⟨h1, h2, h3⟩ := ecells_at l i l[i] (List.getElem?_eq_getElem hi)
    rw [Nat.zero_add]
    exact ⟨own_cells h _ _ h1, own_cells h _ _ h2, own_cells h _ _ h3⟩

theorem new3 (w : World) (t : TypeId) (a b c : Value) : ∀ j u, [a, b, c][j]? = some u → (w.alloc (.cells #[a, b, c] t)).cell? (Addr.add ⟨w.heap.size, 0, none⟩ j) = some u := by
  intro j u h
  rw [show Addr.add ⟨w.heap.size, 0, none⟩ j = ⟨w.heap.size, j, none⟩ from by simp [Addr.add]; exact Eq.symm, cell_at (heap_new w _) j, ← h]
  simp

theorem own_apart {w : World} {base e size : Nat} {v : Value} {n : Nat} {xs : List Value} {P : Nat} (h : w.ownsRow base e size v n xs) (hne : v.ownBlock ≠ some P) (i : Nat) (u : Value) : (w.setCell ⟨P, i, none⟩ u).ownsRow base e size v n xs := by
  obtain ⟨hl, h2⟩ := h
  refine ⟨hl, ?_⟩
  rcases h2 with h2 | ⟨g, cap, cur, hv, hg, hh, hr⟩
  · exact Or.inl h2
  · refine Or.inr ⟨g, cap, cur, hv, hg, ?_, hr⟩
    rw [Below.heap_setCell w ⟨P, i, none⟩ u g (by intro e; apply hne; rw [hv]; exact congrArg some e)]
    exact hh

theorem grow_any {W0 : World} {a : Option Addr} {n cap c : Nat} {w w3 : World} {e size k : Nat} {v : Value} {xs : List Value} (C3 : Is W0 a n cap c w3) (K3 : Kb c w w3) (O3 : w3.ownsRow w.heap.size e size v k xs) (hcw : c < w.heap.size) (hW0 : W0.heap.size ≤ w.heap.size) (ob : Obj) :
    ∀ w4, (w3.alloc ob).grownBy w4 v.ownBlock → Is W0 a n cap c w4 ∧ Kb c w w4 := by
  intro w4 G
  refine ⟨(C3.alloc _).grown G ?_ ?_, (K3.alloc _).grown G (fun b hb => (O3.lt b hb).1)⟩
  · intro h9
    have := (O3.lt c h9).1
    omega
  · intro b hb
    have := (O3.lt b hb).1
    omega

end Tf
end Go.Proofs.YtaplbjoghkipdaaDoor

/- The draw of the tariff of an office. -/
namespace Go.Proofs.YtaplbjoghkipdaaDoor
namespace Tf
open Go.ChangeShapes Go.WideShapes Go.ChangeAt Go.RowKit
open Pk (new_below join_below cell_at heap_new frozen_at lt_of kept heap_old info_of own_form own_below Room)
open Cur (Is Moved Bytes Kb new_any once_any below_any pickInt_any rowOf_new)
set_option linter.unusedSimpArgs false
set_option linter.unusedVariables false

/-- Edges in a block of their own. -/
def EdAt (w : World) (lo : Nat) (va : Option Addr) (es : List Ed) : Prop := ∃ g o, va = some ⟨g, o, none⟩ ∧ lo ≤ g ∧ g < w.heap.size ∧ Edges w (some ⟨g, o, none⟩) es

theorem edAt_own {w : World} {base : Nat} {a : Option Addr} {cap : Nat} {l : List Ed} (h : w.ownsRow base 95 3 (.slice a l.length cap) l.length (ecells l)) (h0 : 0 < l.length) : EdAt w base a l := by
  obtain ⟨g, c', hv, hb, hl⟩ := h.form h0
  simp only [Value.slice.injEq] at hv
  obtain ⟨rfl, -, -⟩ := hv
  exact ⟨g, 0, rfl, hb, hl, edges_own h⟩

/-- Without the first. -/
theorem EdAt.tail {w : World} {lo g o : Nat} {p : Ed} {es : List Ed} (hg : lo ≤ g) (hl : g < w.heap.size) (h : Edges w (some ⟨g, o, none⟩) (p :: es)) : EdAt w lo (some ⟨g, o + 3, none⟩) es := by
  refine ⟨g, o + 3, rfl, hg, hl, Or.inr ⟨g, o + 3, rfl, hl, fun i hi => ?_⟩⟩
  rcases h with h | ⟨b, u, e, hb, hc⟩
  · cases h
  · simp only [Option.some.injEq, Addr.mk.injEq, and_true] at e
    obtain ⟨rfl, rfl⟩ := e
    have := hc (i + 1) (by simp; omega)
    rw [show o + 3 + i * 3 = o + (i + 1) * 3 by omega]
    simpa using this

set_option maxRecDepth 100000 in
set_option maxHeartbeats 8000000 in
theorem tariff9_any {W0 : World} {a : Option Addr} {n cap c : Nat} {w : World} (C : Is W0 a n cap c w) :
    Calls Tryd.prog 42 #[.pointer (some ⟨c, 0, none⟩)] w fun e w' => (∃ (l : List Ed) (va : Option Addr) (vc : Nat), e = .returned (.slice va l.length vc) ∧ l.length ≤ 1000 ∧ EdAt w' w.heap.size va l) ∧ Is W0 a n cap c w' ∧ Kb c w w' := by
  obtain ⟨i0, hi, hz0, hz1, hz2⟩ := info_of info_edge
  have hcw := C.lt
  have hW0 : W0.heap.size ≤ w.heap.size := C.below.size
  have C0 := C.alloc (.cells #[] 95)
  have K0 : Kb c w (w.alloc (.cells #[] 95)) := (Kb.refl c w).alloc _
  have O0 : (w.alloc (.cells #[] 95)).ownsRow w.heap.size 95 3 (.slice (some ⟨w.heap.size, 0, none⟩) 0 0) 0 (ecells []) := ⟨rfl, Or.inr ⟨w.heap.size, 0, #[], rfl, Nat.le_refl _, heap_new _ _, by omega, by unfold maxLen; omega, rfl, rfl⟩⟩
  go_enter Tryd.func42, Tryd.ntmps42
  go_wp2
  generalize w.alloc (.cells #[] 95) = W1 at *
  clear C
  go_loopw [3, 4] (fun v i wr => ∃ (k : Nat) (l : List Ed) (va : Option Addr) (vc : Nat), k ≤ 6 ∧ i = .int .i64 ((k : Int) + 1) ∧ v = .slice va k vc ∧ l.length = k ∧ Is W0 a n cap c wr ∧ Kb c w wr ∧ wr.ownsRow w.heap.size 95 3 (.slice va k vc) k (ecells l)) (fun _ i _ => (7 - intOf i).toNat)
  case atStart => exact ⟨0, [], _, _, by omega, rfl, rfl, rfl, C0, K0, O0⟩
  case round =>
    obtain ⟨k, l, va, vc, hk, rfl, rfl, hlk, Cr, Kr, Ow⟩ := hrel
    by_cases hkm : k < 6
    · have ht : decide ((k : Int) + 1 < 7) = true := decide_eq_true (by omega)
      have hKM : Hid (k < 6) := hkm
      go_wp2_with fail
      refine (below_any Cr _).mono ?_
      rintro e v1 ⟨⟨x1, rfl, hx0, hx1⟩, CC, M1⟩
      have hy1 := hx1 (by omega)
      have OO := Cur.owns_moved Ow M1 hcw
      have KK := Kr.trans (Kb.moved M1)
      clear M1 Cr Kr Ow hx1 C0 K0 O0
      have HX : Hid (_) := grow_any CC KK OO hcw hW0 (.cells #[.int .i64 ((k : Int) + 1), .int .i64 ((k : Int) + 1 + 1), .int .i64 (100 + x1)] 95)
      have hb3 : w.heap.size ≤ v1.heap.size := KK.size
      have HO := OO
      clear CC KK OO
      go_wp2_with (at_builtin; refine wpList_append_own _ rfl _ _ 55 rfl w.heap.size 95 i0 (lgV ⟨0, 0, 0⟩) 3 24 Tryd.underlying55 hi hz0 hz1 hz2 rfl (by decide) _ _ _ rfl (HO.alloc _) ⟨v1.heap.size, 0, none⟩ 1 1 [.int .i64 ((k : Int) + 1), .int .i64 ((k : Int) + 1 + 1), .int .i64 (100 + x1)] rfl rfl ?c1 ?c2 ?c3 ?c4 ?c5 ?_)
      case c1 => exact new3 v1 95 _ _ _
      case c2 => intro u hu; simp at hu; rcases hu with rfl | rfl | rfl <;> rfl
      case c3 => unfold maxLen; omega
      case c4 => omega
      case c5 => simp at hb3 ⊢; omega
      intro v4 w4 hown4 hgrow _
      obtain ⟨C4, K4⟩ := HX.out w4 hgrow
      rw [ecells_snoc l ⟨(k : Int) + 1, (k : Int) + 1 + 1, 100 + x1⟩] at hown4
      obtain ⟨xa, xc, rfl, -⟩ := own_form hown4
      clear HX HO hgrow hb3
      go_wp2
      go_roundw
      case rel => exact ⟨k + 1, l ++ [⟨(k : Int) + 1, (k : Int) + 1 + 1, 100 + x1⟩], xa, xc, by omega, by go_num, rfl, by rw [List.length_append, hlk]; rfl, C4, K4, hown4⟩
      case measure => simp [intOf]; omega
    · obtain rfl : k = 6 := by omega
      clear C0 K0 O0
      go_wp2_with fail
      refine (below_any Cr _).mono ?_
      rintro e v1 ⟨⟨nn, rfl, hn0, hn1⟩, C1, M1⟩
      have hn2 := hn1 (by omega)
      have O1 := Cur.owns_moved Ow M1 hcw
      have K1 := Kr.trans (Kb.moved M1)
      obtain ⟨m, rfl⟩ : ∃ m : Nat, nn = m := ⟨nn.toNat, by omega⟩
      clear hn1 M1 Cr Kr Ow
      go_wp2
      go_loopw [3, 6] (fun v i wr => ∃ (k : Nat) (l : List Ed) (va : Option Addr) (vc : Nat), k ≤ m ∧ i = .int .i64 k ∧ v = .slice va (k + 6) vc ∧ l.length = k + 6 ∧ Is W0 a n cap c wr ∧ Kb c w wr ∧ wr.ownsRow w.heap.size 95 3 (.slice va (k + 6) vc) (k + 6) (ecells l)) (fun _ i _ => m - (intOf i).toNat)
      case atStart => exact ⟨0, l, _, _, by omega, rfl, rfl, hlk, C1, K1, O1⟩
      case round =>
        obtain ⟨k, l, va, vc, hk2, rfl, rfl, hlk, Cr, Kr, Ow⟩ := hrel
        clear C1 K1 O1
        by_cases hkm2 : k < m
        · go_wp2_with fail
          refine (below_any Cr _).mono ?_
          rintro e v1 ⟨⟨x1, rfl, hx0, hx1⟩, C1, M1⟩
          go_wp2_with fail
          refine (below_any C1 _).mono ?_
          rintro e v2 ⟨⟨x2, rfl, hx2, hx3⟩, C2, M2⟩
          go_wp2_with fail
          refine (below_any C2 _).mono ?_
          rintro e v3 ⟨⟨x3, rfl, hx4, hx5⟩, CC, M3⟩
          have hy1 := hx1 (by omega)
          have hy2 := hx3 (by omega)
          have hy3 := hx5 (by omega)
          have MV := (M1.trans M2).trans M3
          have OO := Cur.owns_moved Ow MV hcw
          have KK := Kr.trans (Kb.moved MV)
          clear M1 M2 M3 MV C1 C2 Cr Kr Ow hx1 hx3 hx5
          have HX : Hid (_) := grow_any CC KK OO hcw hW0 (.cells #[.int .i64 (1 + x1), .int .i64 (4 + x2), .int .i64 (100 + x3)] 95)
          have hb3 : w.heap.size ≤ v3.heap.size := KK.size
          have HO := OO
          clear CC KK OO
          go_wp2_with (at_builtin; refine wpList_append_own _ rfl _ _ 55 rfl w.heap.size 95 i0 (lgV ⟨0, 0, 0⟩) 3 24 Tryd.underlying55 hi hz0 hz1 hz2 rfl (by decide) _ _ _ rfl (HO.alloc _) ⟨v3.heap.size, 0, none⟩ 1 1 [.int .i64 (1 + x1), .int .i64 (4 + x2), .int .i64 (100 + x3)] rfl rfl ?c1 ?c2 ?c3 ?c4 ?c5 ?_)
          case c1 => exact new3 v3 95 _ _ _
          case c2 => intro u hu; simp at hu; rcases hu with rfl | rfl | rfl <;> rfl
          case c3 => unfold maxLen; omega
          case c4 => omega
          case c5 => simp at hb3 ⊢; omega
          intro v4 w4 hown4 hgrow _
          obtain ⟨C4, K4⟩ := HX.out w4 hgrow
          rw [ecells_snoc l ⟨1 + x1, 4 + x2, 100 + x3⟩] at hown4
          obtain ⟨xa, xc, rfl, -⟩ := own_form hown4
          clear HX HO hgrow hb3
          go_wp2
          go_roundw
          case rel => exact ⟨k + 1, l ++ [⟨1 + x1, 4 + x2, 100 + x3⟩], xa, xc, by omega, by go_num, by congr 1 <;> omega, by rw [List.length_append, hlk]; (first | rfl | (simp; done) | (simp; omega)), C4, K4, by first | exact hown4 | (rw [show k + 1 + 6 = k + 6 + 1 by omega]; exact hown4)⟩
          case measure => simp [intOf]; omega
        · obtain rfl : k = m := by omega
          have HLN : Hid (l.length = k + 6) := hlk
          have hvc : k + 6 ≤ vc := by
            obtain ⟨-, h | ⟨g', cap', cur, hv, -, -, hle, -⟩⟩ := id Ow
            · omega
            · simp only [Value.slice.injEq] at hv
              omega
          have E9 := edAt_own (a := va) (cap := vc) (l := l) (by rw [hlk]; exact Ow) (by omega)
          go_wp2_with fail
          refine (once_any Cr _).mono ?_
          rintro e v4 ⟨⟨x, rfl⟩, C4, M4⟩
          have K4 := Kr.trans (Kb.moved M4)
          obtain ⟨g, o, rfl, hg1, hg2, hE⟩ := E9
          have hE4 : Edges v4 (some ⟨g, o, none⟩) l := by
            rcases hE with h | ⟨b, u, e, hb, hc⟩
            · exact Or.inl h
            · simp only [Option.some.injEq, Addr.mk.injEq, and_true] at e
              obtain ⟨rfl, rfl⟩ := e
              refine Or.inr ⟨g, o, rfl, by rw [M4.size]; exact hb, fun i hi => ?_⟩
              have hgc : g ≠ c := by omega
              rw [M4.cell (p := ⟨g, o + i * 3, none⟩) hgc, M4.cell (p := ⟨g, o + i * 3 + 1, none⟩) hgc, M4.cell (p := ⟨g, o + i * 3 + 2, none⟩) hgc]
              exact hc i hi
          have hg4 : g < v4.heap.size := by rw [M4.size]; exact hg2
          clear Cr Kr Ow hE M4 hlk
          cases x
          · go_wp2
            go_ret
            exact ⟨⟨l, _, vc, by rw [HLN.out] <;> rfl, by rw [HLN.out]; omega, g, o, rfl, hg1, hg4, hE4⟩, C4, K4⟩
          · cases l with
            | nil => exact absurd HLN.out (by simp)
            | cons p l2 =>
              have HL2 : Hid (l2.length = k + 5) := by have := HLN.out; simp at this; show _ = _; omega
              have ET9 := EdAt.tail hg1 hg4 hE4
              have hk5 : ((k : Int) + 6) - 1 = ((k + 5 : Nat) : Int) := by omega
              have hv0 : ¬ vc - 1 = 0 := by omega
              have hv1 : ¬ 1 = vc := by omega
              have hv2 : 1 < vc := by omega
              have hv3 : 1 ≤ vc := by omega
              have hv4 : ¬ vc = 1 := by omega
              have hv5 : ¬ vc ≤ 1 := by omega
              have hv6 : (1 : Int) ≤ (vc : Int) := by omega
              go_wp2
              go_ret
              exact ⟨⟨l2, some ⟨g, o + 3, none⟩, vc - 1, by rw [HL2.out] <;> rfl, by rw [HL2.out]; omega, ET9⟩, C4, K4⟩

end Tf
end Go.Proofs.YtaplbjoghkipdaaDoor

/- A copy of an office. -/
namespace Go.Proofs.YtaplbjoghkipdaaDoor
namespace Of
open Go.ChangeShapes Go.WideShapes Go.ChangeAt Go.RowKit Go.Joins
open Pk (new_below join_below cell_at heap_new frozen_at lt_of kept heap_old info_of Room)
set_option linter.unusedSimpArgs false
set_option linter.unusedVariables false

/-- All blocks from lo on that there were are kept. -/
def Kp (lo : Nat) (w w1 : World) : Prop := w.heap.size ≤ w1.heap.size ∧ ∀ p : Addr, lo ≤ p.block → p.block < w.heap.size → w1.cell? p = w.cell? p

theorem Kp.of {lo : Nat} {w w1 : World} (L : Below w.heap.size w w1) : Kp lo w w1 := ⟨L.size, fun p _ h => L.cell h⟩

theorem Kp.set {lo g i : Nat} {w : World} (v : Value) (h : g < lo) : Kp lo w (w.setCell ⟨g, i, none⟩ v) := ⟨by rw [World.size_setCell]; exact Nat.le_refl _, fun p h1 h2 => Od.cell_other (by omega)⟩

theorem Kp.trans {lo : Nat} {w w1 w2 : World} (h : Kp lo w w1) (k : Kp lo w1 w2) : Kp lo w w2 := ⟨Nat.le_trans h.1 k.1, fun p h1 h2 => by rw [k.2 p h1 (Nat.lt_of_lt_of_le h2 h.1), h.2 p h1 h2]⟩

theorem edges_kp {w w1 : World} {lo g : Nat} {ps : List Tf.Ed} (h : Tf.Edges w (some ⟨g, 0, none⟩) ps) (hg : lo ≤ g) (k : Kp lo w w1) : Tf.Edges w1 (some ⟨g, 0, none⟩) ps := by
  rcases h with h | ⟨b, o, e, hb, hc⟩
  · exact Or.inl h
  · simp only [Option.some.injEq, Addr.mk.injEq, and_true] at e
    obtain ⟨rfl, rfl⟩ := e
    refine Or.inr ⟨g, 0, rfl, Nat.lt_of_lt_of_le hb k.1, fun i hi => ?_⟩
    rw [k.2 ⟨g, 0 + i * 3, none⟩ hg hb, k.2 ⟨g, 0 + i * 3 + 1, none⟩ hg hb, k.2 ⟨g, 0 + i * 3 + 2, none⟩ hg hb]
    exact hc i hi

theorem holds_kp {w w1 : World} {lo g : Nat} {ps : List Se.Hl} (h : Se.Holds w (some ⟨g, 0, none⟩) ps) (hg : lo ≤ g) (k : Kp lo w w1) : Se.Holds w1 (some ⟨g, 0, none⟩) ps := by
  rcases h with h | ⟨b, o, e, hb, hc⟩
  · exact Or.inl h
  · simp only [Option.some.injEq, Addr.mk.injEq, and_true] at e
    obtain ⟨rfl, rfl⟩ := e
    refine Or.inr ⟨g, 0, rfl, Nat.lt_of_lt_of_le hb k.1, fun i hi => ?_⟩
    rw [k.2 ⟨g, 0 + i * 7, none⟩ hg hb, k.2 ⟨g, 0 + i * 7 + 1, none⟩ hg hb, k.2 ⟨g, 0 + i * 7 + 2, none⟩ hg hb, k.2 ⟨g, 0 + i * 7 + 3, none⟩ hg hb, k.2 ⟨g, 0 + i * 7 + 4, none⟩ hg hb, k.2 ⟨g, 0 + i * 7 + 5, none⟩ hg hb, k.2 ⟨g, 0 + i * 7 + 6, none⟩ hg hb]
    exact hc i hi

theorem reps_kp {w w1 : World} {lo g : Nat} {ps : List Rp.Rr} (h : Rp.Replys w (some ⟨g, 0, none⟩) ps) (hg : lo ≤ g) (k : Kp lo w w1) : Rp.Replys w1 (some ⟨g, 0, none⟩) ps := by
  rcases h with h | ⟨b, o, e, hb, hc⟩
  · exact Or.inl h
  · simp only [Option.some.injEq, Addr.mk.injEq, and_true] at e
    obtain ⟨rfl, rfl⟩ := e
    refine Or.inr ⟨g, 0, rfl, Nat.lt_of_lt_of_le hb k.1, fun i hi => ?_⟩
    rw [k.2 ⟨g, 0 + i * 4, none⟩ hg hb, k.2 ⟨g, 0 + i * 4 + 1, none⟩ hg hb, k.2 ⟨g, 0 + i * 4 + 2, none⟩ hg hb, k.2 ⟨g, 0 + i * 4 + 3, none⟩ hg hb]
    exact hc i hi

theorem stops_kp {w w1 : World} {lo g : Nat} {ps : List Tn.St} (h : Tn.Stops w (some ⟨g, 0, none⟩) ps) (hg : lo ≤ g) (k : Kp lo w w1) : Tn.Stops w1 (some ⟨g, 0, none⟩) ps := by
  rcases h with h | ⟨b, o, e, hb, hc⟩
  · exact Or.inl h
  · simp only [Option.some.injEq, Addr.mk.injEq, and_true] at e
    obtain ⟨rfl, rfl⟩ := e
    refine Or.inr ⟨g, 0, rfl, Nat.lt_of_lt_of_le hb k.1, fun i hi => ?_⟩
    rw [k.2 ⟨g, 0 + i * 3, none⟩ hg hb, k.2 ⟨g, 0 + i * 3 + 1, none⟩ hg hb, k.2 ⟨g, 0 + i * 3 + 2, none⟩ hg hb]
    exact hc i hi

theorem rides_kp {w w1 : World} {lo g : Nat} {ps : List Rd.Ri} (h : Rd.Rides w (some ⟨g, 0, none⟩) ps) (hg : lo ≤ g) (k : Kp lo w w1) : Rd.Rides w1 (some ⟨g, 0, none⟩) ps := by
  rcases h with h | ⟨b, o, e, hb, hc⟩
  · exact Or.inl h
  · simp only [Option.some.injEq, Addr.mk.injEq, and_true] at e
    obtain ⟨rfl, rfl⟩ := e
    refine Or.inr ⟨g, 0, rfl, Nat.lt_of_lt_of_le hb k.1, fun i hi => ?_⟩
    rw [k.2 ⟨g, 0 + i * 4, none⟩ hg hb, k.2 ⟨g, 0 + i * 4 + 1, none⟩ hg hb, k.2 ⟨g, 0 + i * 4 + 2, none⟩ hg hb, k.2 ⟨g, 0 + i * 4 + 3, none⟩ hg hb]
    exact hc i hi

/-- Trains of the call's own, all from block lo on. -/
def Ln (w : World) (lo g : Nat) (ts : List Tn.Tr) : Prop := lo ≤ g ∧ g < w.heap.size ∧ ∀ i (h : i < ts.length), Tn.Nums w g (i * 5) ts[i].h ∧ ∃ gi, lo ≤ gi ∧ w.cell? ⟨g, i * 5 + 4, none⟩ = some (.slice (some ⟨gi, 0, none⟩) ts[i].l.length ts[i].l.length) ∧ Tn.Stops w (some ⟨gi, 0, none⟩) ts[i].l

theorem Ln.kp {w w1 : World} {lo g : Nat} {ts : List Tn.Tr} (h : Ln w lo g ts) (k : Kp lo w w1) : Ln w1 lo g ts := by
  obtain ⟨h1, h2, h3⟩ := h
  refine ⟨h1, Nat.lt_of_lt_of_le h2 k.1, fun i hi => ?_⟩
  obtain ⟨q, gi, q1, q2, q3⟩ := h3 i hi
  obtain ⟨n0, n1, n2, n3⟩ := q
  exact ⟨⟨by rw [k.2 ⟨g, i * 5, none⟩ h1 h2]; exact n0, by rw [k.2 ⟨g, i * 5 + 1, none⟩ h1 h2]; exact n1, by rw [k.2 ⟨g, i * 5 + 2, none⟩ h1 h2]; exact n2, by rw [k.2 ⟨g, i * 5 + 3, none⟩ h1 h2]; exact n3⟩, gi, q1, by rw [k.2 ⟨g, i * 5 + 4, none⟩ h1 h2]; exact q2, stops_kp q3 q1 k⟩

theorem Ln.mine {w : World} {lo lo' g : Nat} {ts : List Tn.Tr} (h : Tn.Mine w lo' g ts.length ts.length ts) (h1 : lo ≤ g) (h2 : g < w.heap.size) (h3 : lo ≤ lo') : Ln w lo g ts := by
  refine ⟨h1, h2, fun i hi => ?_⟩
  obtain ⟨q, gi, q1, q2, q3, q4, q5, q6⟩ := h.2 i hi hi
  exact ⟨q, gi, by omega, q4, q5⟩

theorem Ln.trains {w : World} {lo g : Nat} {ts : List Tn.Tr} (h : Ln w lo g ts) : Tn.Trains w (some ⟨g, 0, none⟩) ts := by
  obtain ⟨h1, h2, h3⟩ := h
  refine Or.inr ⟨g, 0, rfl, h2, fun i hi => ?_⟩
  obtain ⟨q, gi, q1, q2, q3⟩ := h3 i hi
  rw [Nat.zero_add]
  exact ⟨q, gi, 0, _, q2, q3⟩

/-- Orders of the call's own, all from block lo on. -/
def Os (w : World) (lo g : Nat) (ts : List Od.Oo) : Prop := lo ≤ g ∧ g < w.heap.size ∧ ∀ i (h : i < ts.length), Od.Nums w g (i * 9) ts[i].h ∧ ∃ gi, lo ≤ gi ∧ w.cell? ⟨g, i * 9 + 5, none⟩ = some (.slice (some ⟨gi, 0, none⟩) ts[i].l.length ts[i].l.length) ∧ Rd.Rides w (some ⟨gi, 0, none⟩) ts[i].l

theorem Os.kp {w w1 : World} {lo g : Nat} {ts : List Od.Oo} (h : Os w lo g ts) (k : Kp lo w w1) : Os w1 lo g ts := by
  obtain ⟨h1, h2, h3⟩ := h
  refine ⟨h1, Nat.lt_of_lt_of_le h2 k.1, fun i hi => ?_⟩
  obtain ⟨q, gi, q1, q2, q3⟩ := h3 i hi
  refine ⟨?_, gi, q1, by rw [k.2 ⟨g, i * 9 + 5, none⟩ h1 h2]; exact q2, rides_kp q3 q1 k⟩
  unfold Od.Nums at q ⊢
  rw [k.2 ⟨g, i * 9, none⟩ h1 h2, k.2 ⟨g, i * 9 + 1, none⟩ h1 h2, k.2 ⟨g, i * 9 + 2, none⟩ h1 h2, k.2 ⟨g, i * 9 + 3, none⟩ h1 h2, k.2 ⟨g, i * 9 + 4, none⟩ h1 h2, k.2 ⟨g, i * 9 + 6, none⟩ h1 h2, k.2 ⟨g, i * 9 + 7, none⟩ h1 h2, k.2 ⟨g, i * 9 + 8, none⟩ h1 h2]
  exact q

theorem Os.mine {w : World} {lo lo' g : Nat} {ts : List Od.Oo} (h : Od.Mine w lo' g ts.length ts.length ts) (h1 : lo ≤ g) (h2 : g < w.heap.size) (h3 : lo ≤ lo') : Os w lo g ts := by
  refine ⟨h1, h2, fun i hi => ?_⟩
  obtain ⟨q, gi, q1, q2, q3, q4, q5, q6⟩ := h.2 i hi hi
  exact ⟨q, gi, by omega, q4, q5⟩

theorem Os.orders {w : World} {lo g : Nat} {ts : List Od.Oo} (h : Os w lo g ts) : Od.Orders w (some ⟨g, 0, none⟩) ts := by
  obtain ⟨h1, h2, h3⟩ := h
  refine Or.inr ⟨g, 0, rfl, h2, fun i hi => ?_⟩
  obtain ⟨q, gi, q1, q2, q3⟩ := h3 i hi
  rw [Nat.zero_add]
  exact ⟨q, some ⟨gi, 0, none⟩, _, q2, q3⟩

theorem h_set {w : World} {c i : Nat} {cs : Array Value} {t : TypeId} {f : Nat × Nat} (h : w.heap[c]? = some (.cells cs t f)) (u : Value) : (w.setCell ⟨c, i, none⟩ u).heap[c]? = some (.cells (cs.setIfInBounds i u) t f) := by
  unfold World.setCell
  simp [Array.getElem?_modify, h]

theorem h_other {w : World} {c g i : Nat} {x : Obj} (h : w.heap[c]? = some x) (hne : c ≠ g) (u : Value) : (w.setCell ⟨g, i, none⟩ u).heap[c]? = some x := by
  rw [Below.heap_setCell w ⟨g, i, none⟩ u c hne]
  exact h

end Of
end Go.Proofs.YtaplbjoghkipdaaDoor

/- slices.Clone over the lists of an office. -/
namespace Go.Proofs.YtaplbjoghkipdaaDoor
namespace Of
open Go.ChangeShapes Go.WideShapes Go.ChangeAt Go.RowKit Go.Joins
open Pk (new_below join_below cell_at heap_new frozen_at lt_of kept heap_old info_of Room)
set_option linter.unusedSimpArgs false
set_option linter.unusedVariables false

open Pk (own_form)

/-- A row of one's own that is not empty. -/
theorem own_g {w : World} {base e size n : Nat} {v : Value} {xs : List Value} (h : w.ownsRow base e size v n xs) (hn : 0 < n) :
    ∃ g cap, v = .slice (some ⟨g, 0, none⟩) n cap ∧ base ≤ g ∧ g < w.heap.size ∧ (∀ i u, xs[i]? = some u → w.cell? ⟨g, i, none⟩ = some u) ∧ ∀ i, w.frozen? ⟨g, i, none⟩ = false := by
  obtain ⟨hl, h2⟩ := h
  rcases h2 with ⟨hv, h0⟩ | ⟨g, cap, cur, hv, hg, hh, h1, h3, h4, h5⟩
  · omega
  · refine ⟨g, cap, hv, hg, lt_of hh, fun i u hu => ?_, fun i => frozen_at hh i⟩
    rw [cell_at hh]
    have hx := (List.getElem?_eq_some_iff.1 hu).1
    have h6 : (cur.toList.take (n * size))[i]? = xs[i]? := by rw [h5]
    rw [List.getElem?_take, if_pos (by omega), Array.getElem?_toList] at h6
    rw [h6]
    exact hu

theorem nil_row (w : World) (t size : Nat) : (w.alloc (.cells #[] t)).ownsRow w.heap.size t size (.slice (some ⟨w.heap.size, 0, none⟩) 0 0) 0 [] :=
  ⟨by simp, Or.inr ⟨w.heap.size, 0, #[], rfl, Nat.le_refl _, heap_new w _, by omega, by unfold maxLen; omega, by simp, by simp⟩⟩

/-- The cells of a slice as they are. -/
def snap (w : World) (b o m : Nat) : List Value := (List.range m).map fun j => (w.cell? ⟨b, o + j, none⟩).getD undef

theorem snap_len (w : World) (b o m : Nat) : (snap w b o m).length = m := by simp [snap]

theorem snap_at {w : World} {b o m : Nat} (H : ∀ j, j < m → ∃ v, w.cell? ⟨b, o + j, none⟩ = some v ∧ v.oneCell' = true) (j : Nat) (hj : j < m) : (snap w b o m)[j]? = w.cell? ⟨b, o + j, none⟩ := by
  obtain ⟨v, hv, -⟩ := H j hj
  unfold snap
  rw [List.getElem?_map, List.getElem?_range hj, hv]
  simp [hv]

theorem snap_get {w : World} {b o m : Nat} (H : ∀ j, j < m → ∃ v, w.cell? ⟨b, o + j, none⟩ = some v ∧ v.oneCell' = true) : ∀ j u, (snap w b o m)[j]? = some u → w.cell? (Addr.add ⟨b, o, none⟩ j) = some u := by
  intro j u hu
  have hj : j < m := by
    have := (List.getElem?_eq_some_iff.1 hu).1
    rwa [snap_len] at this
  rw [snap_at H j hj] at hu
  rw [Od.add_plain]
  exact hu

theorem snap_one {w : World} {b o m : Nat} (H : ∀ j, j < m → ∃ v, w.cell? ⟨b, o + j, none⟩ = some v ∧ v.oneCell' = true) : ∀ u ∈ snap w b o m, u.oneCell' = true := by
  intro u hu
  obtain ⟨j, hj, rfl⟩ := List.mem_iff_getElem.1 hu
  rw [snap_len] at hj
  have h1 := snap_at H j hj
  obtain ⟨v, hv, h2⟩ := H j hj
  rw [hv, List.getElem?_eq_some_iff] at h1
  obtain ⟨h0, h1⟩ := h1
  rw [h1]
  exact h2

/-- What a clone of a slice is: nothing, or the same cells in a new block. -/
def Cloned (w w' : World) (a' : Option Addr) (b o n sz : Nat) : Prop := n = 0 ∨ ∃ g, a' = some ⟨g, 0, none⟩ ∧ w.heap.size ≤ g ∧ g < w'.heap.size ∧ (∀ j, j < n * sz → w'.cell? ⟨g, j, none⟩ = w.cell? ⟨b, o + j, none⟩) ∧ ∀ i, w'.frozen? ⟨g, i, none⟩ = false

end Of
end Go.Proofs.YtaplbjoghkipdaaDoor

/- Contract of copyLines of the program. -/
namespace Go.Proofs.YtaplbjoghkipdaaDoor
namespace Of
open Go.ChangeShapes Go.WideShapes Go.ChangeAt Go.RowKit Go.Joins
open Pk (new_below join_below cell_at heap_new frozen_at lt_of kept heap_old info_of Room)
set_option linter.unusedSimpArgs false
set_option linter.unusedVariables false

open Tn (Tr Stops Trains Nums)

theorem trains_cells {w : World} {b o : Nat} {ts : List Tr} (I : Trains w (some ⟨b, o, none⟩) ts) : ∀ j, j < ts.length * 5 → ∃ v, w.cell? ⟨b, o + j, none⟩ = some v ∧ v.oneCell' = true := by
  intro j hj
  obtain ⟨b', o', bi, oi, ci, e, -, c0, c1, c2, c3, c4, -⟩ := I.at (j / 5) (by omega)
  simp only [Option.some.injEq, Addr.mk.injEq, and_true] at e
  obtain ⟨rfl, rfl⟩ := e
  have hj5 : j = j / 5 * 5 + j % 5 := by omega
  have hr : j % 5 < 5 := Nat.mod_lt _ (by omega)
  rcases (by omega : j % 5 = 0 ∨ j % 5 = 1 ∨ j % 5 = 2 ∨ j % 5 = 3 ∨ j % 5 = 4) with h | h | h | h | h
  · exact ⟨_, by rw [show o + j = o + j / 5 * 5 by omega]; exact c0, rfl⟩
  · exact ⟨_, by rw [show o + j = o + j / 5 * 5 + 1 by omega]; exact c1, rfl⟩
  · exact ⟨_, by rw [show o + j = o + j / 5 * 5 + 2 by omega]; exact c2, rfl⟩
  · exact ⟨_, by rw [show o + j = o + j / 5 * 5 + 3 by omega]; exact c3, rfl⟩
  · exact ⟨_, by rw [show o + j = o + j / 5 * 5 + 4 by omega]; exact c4, rfl⟩

theorem stops_cells {w : World} {b o : Nat} {l : List Tn.St} (I : Stops w (some ⟨b, o, none⟩) l) : ∀ j, j < l.length * 3 → ∃ v, w.cell? ⟨b, o + j, none⟩ = some v ∧ v.oneCell' = true := by
  intro j hj
  obtain ⟨b', o', e, -, c0, c1, c2⟩ := I.at (j / 3) (by omega)
  simp only [Option.some.injEq, Addr.mk.injEq, and_true] at e
  obtain ⟨rfl, rfl⟩ := e
  rcases (by omega : j % 3 = 0 ∨ j % 3 = 1 ∨ j % 3 = 2) with h | h | h
  · exact ⟨_, by rw [show o + j = o + j / 3 * 3 by omega]; exact c0, rfl⟩
  · exact ⟨_, by rw [show o + j = o + j / 3 * 3 + 1 by omega]; exact c1, rfl⟩
  · exact ⟨_, by rw [show o + j = o + j / 3 * 3 + 2 by omega]; exact c2, rfl⟩

theorem stops_moved {w w' : World} {b o g : Nat} {l : List Tn.St} (I : Stops w (some ⟨b, o, none⟩) l) (hg : g < w'.heap.size) (hc : ∀ j, j < l.length * 3 → w'.cell? ⟨g, j, none⟩ = w.cell? ⟨b, o + j, none⟩) : Stops w' (some ⟨g, 0, none⟩) l := by
  refine Or.inr ⟨g, 0, rfl, hg, fun i hi => ?_⟩
  obtain ⟨b', o', e, -, c0, c1, c2⟩ := I.at i hi
  simp only [Option.some.injEq, Addr.mk.injEq, and_true] at e
  obtain ⟨rfl, rfl⟩ := e
  rw [show 0 + i * 3 = i * 3 by omega, hc (i * 3) (by omega), hc (i * 3 + 1) (by omega), hc (i * 3 + 2) (by omega)]
  exact ⟨c0, by rw [← Nat.add_assoc]; exact c1, by rw [← Nat.add_assoc]; exact c2⟩

/-- A row of trains in block g: the first k have stops in blocks of their own, from lo on; the others' lie below lo. -/
structure Cp (w : World) (lo g : Nat) (gf cf : Nat → Nat) (k : Nat) (ts : List Tr) : Prop where
  room : Room w g (ts.length * 5)
  nums : ∀ i (h : i < ts.length), Nums w g (i * 5) ts[i].h
  each : ∀ i (h : i < ts.length), i < k → lo ≤ gf i ∧ gf i ≠ g ∧ gf i < w.heap.size ∧ w.cell? ⟨g, i * 5 + 4, none⟩ = some (.slice (some ⟨gf i, 0, none⟩) ts[i].l.length (cf i)) ∧ Stops w (some ⟨gf i, 0, none⟩) ts[i].l ∧ Room w (gf i) (ts[i].l.length * 3)
  apart : ∀ i j, i < k → j < k → i < ts.length → j < ts.length → i ≠ j → gf i ≠ gf j
  rest : ∀ i (h : i < ts.length), k ≤ i → ∃ bi oi ci, bi < lo ∧ w.cell? ⟨g, i * 5 + 4, none⟩ = some (.slice (some ⟨bi, oi, none⟩) ts[i].l.length ci) ∧ Stops w (some ⟨bi, oi, none⟩) ts[i].l

theorem Cp.on {w w1 : World} {lo g : Nat} {gf cf : Nat → Nat} {k : Nat} {ts : List Tr} (h : Cp w lo g gf cf k ts) (L : Below w.heap.size w w1) (hg : g < w.heap.size) : Cp w1 lo g gf cf k ts := by
  refine ⟨h.room.on L hg, fun i hi => (h.nums i hi).on fun j => L.cell (p := ⟨g, j, none⟩) hg, fun i hi hk => ?_, h.apart, fun i hi hk => ?_⟩
  · obtain ⟨h1, h2, h3, h4, h5, h6⟩ := h.each i hi hk
    exact ⟨h1, h2, Nat.lt_of_lt_of_le h3 L.size, by rw [L.cell (p := ⟨g, i * 5 + 4, none⟩) hg]; exact h4, h5.on L, h6.on L h3⟩
  · obtain ⟨bi, oi, ci, h1, h2, h3⟩ := h.rest i hi hk
    exact ⟨bi, oi, ci, h1, by rw [L.cell (p := ⟨g, i * 5 + 4, none⟩) hg]; exact h2, h3.on L⟩

theorem stops_off {w : World} {b o g i : Nat} {l : List Tn.St} {u : Value} (h : Stops w (some ⟨b, o, none⟩) l) (hne : b ≠ g) : Stops (w.setCell ⟨g, i, none⟩ u) (some ⟨b, o, none⟩) l := by
  rcases h with h | ⟨b', o', e, hb, hc⟩
  · exact Or.inl h
  · simp only [Option.some.injEq, Addr.mk.injEq, and_true] at e
    obtain ⟨rfl, rfl⟩ := e
    refine Or.inr ⟨b, o, rfl, by rw [World.size_setCell]; exact hb, fun j hj => ?_⟩
    rw [Od.cell_other (p := ⟨b, o + j * 3, none⟩) hne, Od.cell_other (p := ⟨b, o + j * 3 + 1, none⟩) hne, Od.cell_other (p := ⟨b, o + j * 3 + 2, none⟩) hne]
    exact hc j hj

def upd (f : Nat → Nat) (k v : Nat) : Nat → Nat := fun i => if i = k then v else f i
theorem upd_same (f : Nat → Nat) (k v : Nat) : upd f k v k = v := if_pos rfl
theorem upd_other (f : Nat → Nat) (k v i : Nat) (h : i ≠ k) : upd f k v i = f i := if_neg h

theorem Cp.put {w : World} {lo g : Nat} {gf cf : Nat → Nat} {k : Nat} {ts : List Tr} (h : Cp w lo g gf cf k ts) (hk : k < ts.length) (hlo : lo ≤ g) (g2 c2 : Nat) (h1 : lo ≤ g2) (h2 : g2 ≠ g) (h3 : g2 < w.heap.size) (hS : Stops w (some ⟨g2, 0, none⟩) ts[k].l) (hR : Room w g2 (ts[k].l.length * 3)) (hnew : ∀ i, i < k → i < ts.length → gf i ≠ g2) :
    Cp (w.setCell ⟨g, k * 5 + 4, none⟩ (.slice (some ⟨g2, 0, none⟩) ts[k].l.length c2)) lo g (upd gf k g2) (upd cf k c2) (k + 1) ts := by
  refine ⟨h.room.set g _ _, fun i hi => ?_, fun i hi hik => ?_, fun i j hi hj hil hjl hne => ?_, fun i hi hik => ?_⟩
  · obtain ⟨n0, n1, n2, n3⟩ := h.nums i hi
    refine ⟨?_, ?_, ?_, ?_⟩
    · rw [Od.set_cell n0, if_neg (by omega)]
    · rw [Od.set_cell n1, if_neg (by omega)]
    · rw [Od.set_cell n2, if_neg (by omega)]
    · rw [Od.set_cell n3, if_neg (by omega)]
  · by_cases e : i = k
    · subst e
      rw [upd_same, upd_same]
      obtain ⟨⟨v, hv⟩, -⟩ := h.room (i * 5 + 4) (by omega)
      refine ⟨h1, h2, by rw [World.size_setCell]; exact h3, by rw [Od.set_cell hv, if_pos rfl], stops_off hS h2, hR.set g _ _⟩
    · rw [upd_other _ _ _ _ e, upd_other _ _ _ _ e]
      obtain ⟨q1, q2, q3, q4, q5, q6⟩ := h.each i hi (by omega)
      exact ⟨q1, q2, by rw [World.size_setCell]; exact q3, by rw [Od.set_cell q4, if_neg (by omega)], stops_off q5 q2, q6.set g _ _⟩
  · by_cases e : i = k
    · subst e
      rw [upd_same, upd_other _ _ _ _ (fun h => hne h.symm)]
      exact fun h => hnew j (by omega) hjl h.symm
    · rw [upd_other _ _ _ _ e]
      by_cases e2 : j = k
      · subst e2
        rw [upd_same]
        exact hnew i (by omega) hil
      · rw [upd_other _ _ _ _ e2]
        exact h.apart i j (by omega) (by omega) hil hjl hne
  · obtain ⟨bi, oi, ci, q1, q2, q3⟩ := h.rest i hi (by omega)
    exact ⟨bi, oi, ci, q1, by rw [Od.set_cell q2, if_neg (by omega)], stops_off q3 (by omega)⟩

/-- Trains that were copied: none, or a row of them. -/
def Lt (w : World) (lo : Nat) (a : Option Addr) (gf cf : Nat → Nat) (k : Nat) (ts : List Tr) : Prop := ts.length = 0 ∨ ∃ g, a = some ⟨g, 0, none⟩ ∧ lo ≤ g ∧ g < w.heap.size ∧ Cp w lo g gf cf k ts

theorem Lt.on {w w1 : World} {lo : Nat} {a : Option Addr} {gf cf : Nat → Nat} {k : Nat} {ts : List Tr} (h : Lt w lo a gf cf k ts) (L : Below w.heap.size w w1) : Lt w1 lo a gf cf k ts := by
  rcases h with h | ⟨g, h1, h2, h3, h4⟩
  · exact Or.inl h
  · exact Or.inr ⟨g, h1, h2, Nat.lt_of_lt_of_le h3 L.size, h4.on L h3⟩

theorem Lt.trains {w : World} {lo : Nat} {a : Option Addr} {gf cf : Nat → Nat} {ts : List Tr} (h : Lt w lo a gf cf ts.length ts) : Trains w a ts := by
  rcases h with h | ⟨g, rfl, h2, h3, h4⟩
  · exact Or.inl (List.eq_nil_of_length_eq_zero h)
  · refine Or.inr ⟨g, 0, rfl, h3, fun i hi => ?_⟩
    obtain ⟨q1, q2, q3, q4, q5, q6⟩ := h4.each i hi hi
    rw [Nat.zero_add]
    exact ⟨h4.nums i hi, gf i, 0, _, q4, q5⟩

theorem lt_start {w w1 : World} {b o : Nat} {a : Option Addr} {ts : List Tr} (I : Trains w (some ⟨b, o, none⟩) ts) (hs : ∀ i (h : i < ts.length), 1 ≤ ts[i].l.length) (L : Below w.heap.size w w1) (C : Cloned w w1 a b o ts.length 5) : Lt w1 w.heap.size a (fun _ => 0) (fun _ => 0) 0 ts := by
  rcases C with h | ⟨g, rfl, h1, h2, h3, h4⟩
  · exact Or.inl h
  · refine Or.inr ⟨g, rfl, h1, h2, ⟨fun j hj => ?_, fun i hi => ?_, fun i hi h => by omega, fun i j hi => by omega, fun i hi _ => ?_⟩⟩
    · obtain ⟨v, hv, -⟩ := trains_cells I j hj
      exact ⟨⟨v, by rw [h3 j hj]; exact hv⟩, h4 j⟩
    · obtain ⟨b', o', bi, oi, ci, e, -, c0, c1, c2, c3, c4, -⟩ := I.at i hi
      simp only [Option.some.injEq, Addr.mk.injEq, and_true] at e
      obtain ⟨rfl, rfl⟩ := e
      refine ⟨?_, ?_, ?_, ?_⟩
      · rw [h3 (i * 5) (by omega)]; exact c0
      · rw [h3 (i * 5 + 1) (by omega), ← Nat.add_assoc]; exact c1
      · rw [h3 (i * 5 + 2) (by omega), ← Nat.add_assoc]; exact c2
      · rw [h3 (i * 5 + 3) (by omega), ← Nat.add_assoc]; exact c3
    · obtain ⟨b', o', bi, oi, ci, e, -, c0, c1, c2, c3, c4, S⟩ := I.at i hi
      simp only [Option.some.injEq, Addr.mk.injEq, and_true] at e
      obtain ⟨rfl, rfl⟩ := e
      refine ⟨bi, oi, ci, ?_, by rw [h3 (i * 5 + 4) (by omega), ← Nat.add_assoc]; exact c4, S.on L⟩
      have := hs i hi
      obtain ⟨b2, o2, e2, hb2, -⟩ := S.at 0 (by omega)
      simp only [Option.some.injEq, Addr.mk.injEq, and_true] at e2
      rw [e2.1]
      exact hb2

end Of
end Go.Proofs.YtaplbjoghkipdaaDoor

/- The contract of the model's TariffOk. -/
namespace Go.Proofs.YtaplbjoghkipdaaDoor
namespace Tf
open Go.ChangeShapes Go.WideShapes Go.ChangeAt Go.RowKit
open Pk (new_below join_below cell_at heap_new frozen_at lt_of kept heap_old Drawn)
set_option linter.unusedSimpArgs false
set_option linter.unusedVariables false

set_option maxHeartbeats 4000000 in
set_option maxRecDepth 100000 in
theorem specTariff_val (a : Option Addr) (l : List Ed) (cap : Nat) (w : World) (hl : l.length ≤ maxLen) (I : Edges w a l) :
    Calls Tryd.prog 52 #[.slice a l.length cap] w fun e w' => e = .returned (.bool (tarB l)) ∧ Below w.heap.size w w' := by
  unfold maxLen at hl
  go_enter Tryd.func52, Tryd.ntmps52
  go_wp2
  go_loopw [3] (fun i wr => ∃ k : Nat, k ≤ l.length ∧ i = .int .i64 k ∧ Below w.heap.size w wr ∧ Hid (∀ i (hi : i < l.length), i < k → edB l[i] = true)) (fun i _ => l.length - (intOf i).toNat)
  case atStart => exact ⟨0, by omega, rfl, Below.refl _ _, fun i _ h => by omega⟩
  case round =>
    obtain ⟨k, hk, rfl, L, H⟩ := hrel
    by_cases hkn : k < l.length
    · obtain ⟨b, o, rfl, hlt, c0, c1, c2⟩ := (I.on L).at k hkn
      have N := join_below L (new_below wr (edO l[k] 95))
      have HE : Hid (edB l[k] = false → tarB l = false) := by
        intro e
        unfold tarB
        have : l.all edB = false := List.all_eq_false.2 ⟨l[k], List.getElem_mem hkn, by simp [e]⟩
        rw [this]
        simp
      have HG : Hid (edB l[k] = true → Hid (∀ i (hi : i < l.length), i < k + 1 → edB l[i] = true)) := by
        intro e i hi hik
        by_cases h : i = k
        · subst h; exact e
        · exact H.out i hi (by omega)
      clear H
      generalize l[k] = p at *
      obtain ⟨ea, eb, co⟩ := p
      have HB : Hid (edB ⟨ea, eb, co⟩ = (inB ea 1 9999 && (inB eb 1 9999 && (!(ea == eb) && inB co 0 1000000)))) := rfl
      have H1 : Hid (∀ w, _) := fun w => station_val ea w
      have H2 : Hid (∀ w, _) := fun w => station_val eb w
      have H3 : Hid (∀ w, _) := fun w => in_val co 0 1000000 w
      dsimp only at *
      generalize inB ea 1 9999 = b1 at *
      generalize inB eb 1 9999 = b2 at *
      generalize inB co 0 1000000 = b3 at *
      go_wp2_with fail
      refine (H1.out _).mono ?_
      rintro e w1 ⟨rfl, rfl⟩
      cases b1
      · go_wp2
        go_ret
        exact ⟨by rw [HE.out HB.out] <;> rfl, N⟩
      go_wp2_with fail
      refine (H2.out _).mono ?_
      rintro e w2 ⟨rfl, rfl⟩
      cases b2
      · go_wp2
        go_ret
        exact ⟨by rw [HE.out HB.out] <;> rfl, N⟩
      by_cases he : ea = eb
      · have e2 : (ea == eb) = true := beq_iff_eq.2 he
        rw [e2] at HB
        clear he
        go_wp2
        go_ret
        exact ⟨by rw [HE.out HB.out] <;> rfl, N⟩
      have e2 : (ea == eb) = false := beq_eq_false_iff_ne.2 he
      rw [e2] at HB
      clear he
      go_wp2_with fail
      refine (H3.out _).mono ?_
      rintro e w3 ⟨rfl, rfl⟩
      cases b3
      · go_wp2
        go_ret
        exact ⟨by rw [HE.out HB.out] <;> rfl, N⟩
      · go_wp2
        go_roundw
        case rel => exact ⟨k + 1, by omega, by go_num, N, HG.out HB.out⟩
        case measure => simp [intOf]; omega
    · have HA : Hid (tarB l = decide (l.length ≤ 200)) := by
        show _ = _
        have : l.all edB = true := by
          rw [List.all_eq_true]
          intro x hx
          obtain ⟨i, hi, rfl⟩ := List.getElem_of_mem hx
          exact H.out i hi (by omega)
        unfold tarB
        rw [this]
        simp
      clear H
      by_cases hb : l.length ≤ 200
      · have hb1 : decide ((l.length : Int) ≤ 200) = true := decide_eq_true (by omega)
        go_wp2
        go_ret
        exact ⟨by rw [HA.out, decide_eq_true hb] <;> rfl, L⟩
      · have hb1 : decide ((l.length : Int) ≤ 200) = false := decide_eq_false (by omega)
        go_wp2
        go_ret
        exact ⟨by rw [HA.out, decide_eq_false hb] <;> rfl, L⟩

end Tf
end Go.Proofs.YtaplbjoghkipdaaDoor

/- Keys of holds, and whether two holds meet, of the program and of the model. -/
namespace Go.Proofs.YtaplbjoghkipdaaDoor
namespace Se
open Go.ChangeShapes Go.WideShapes Go.ChangeAt Go.RowKit
open Pk (new_below join_below cell_at heap_new frozen_at lt_of kept heap_old Drawn info_of own_form own_below Room)
set_option linter.unusedSimpArgs false
set_option linter.unusedVariables false

/-- What two holds have in common that may meet. -/
structure Ky where
  tr : Int
  dy : Int
  co : Int
  se : Int
deriving DecidableEq

def key (p : Hl) : Ky := ⟨p.tr, p.dy, p.co, p.se⟩

/-- It as a value. -/
abbrev kyV (k : Ky) : Value := .agg #[.int .i64 k.tr, .int .i64 k.dy, .int .i64 k.co, .int .i64 k.se]

/-- Whether two meet. -/
def meetB (p q : Hl) : Bool := decide (key p = key q) && (decide (p.ba < q.be) && decide (q.ba < p.be))

theorem key_eq {p q : Hl} : key p = key q ↔ p.tr = q.tr ∧ p.dy = q.dy ∧ p.co = q.co ∧ p.se = q.se := by
  unfold key
  constructor
  · intro h
    simp only [Ky.mk.injEq] at h
    exact h
  · rintro ⟨h1, h2, h3, h4⟩
    rw [h1, h2, h3, h4]

theorem meet_comm (p q : Hl) : meetB p q = meetB q p := by
  unfold meetB
  rw [show decide (key p = key q) = decide (key q = key p) from decide_eq_decide.2 eq_comm, Bool.and_comm (decide (p.ba < q.be))]

/-- A box of a hold. -/
def Bx (w : World) (b : Nat) (p : Hl) : Prop := w.cell? ⟨b, 0, none⟩ = some (.int .i64 p.tr) ∧ w.cell? ⟨b, 1, none⟩ = some (.int .i64 p.dy) ∧ w.cell? ⟨b, 2, none⟩ = some (.int .i64 p.co) ∧ w.cell? ⟨b, 3, none⟩ = some (.int .i64 p.se) ∧ w.cell? ⟨b, 4, none⟩ = some (.int .i64 p.ba) ∧ w.cell? ⟨b, 5, none⟩ = some (.int .i64 p.be) ∧ w.cell? ⟨b, 6, none⟩ = some (.int .i64 p.od)

theorem Bx.on {w w1 : World} {b B : Nat} {p : Hl} (h : Bx w b p) (L : Below B w w1) (hb : b < B) : Bx w1 b p := by
  unfold Bx
  rw [L.cell (p := ⟨b, 0, none⟩) hb, L.cell (p := ⟨b, 1, none⟩) hb, L.cell (p := ⟨b, 2, none⟩) hb, L.cell (p := ⟨b, 3, none⟩) hb, L.cell (p := ⟨b, 4, none⟩) hb, L.cell (p := ⟨b, 5, none⟩) hb, L.cell (p := ⟨b, 6, none⟩) hb]
  exact h

theorem Bx.of {w : World} {b : Nat} {p : Hl} {t : TypeId} {f : Nat × Nat} (h : w.heap[b]? = some (.cells #[.int .i64 p.tr, .int .i64 p.dy, .int .i64 p.co, .int .i64 p.se, .int .i64 p.ba, .int .i64 p.be, .int .i64 p.od] t f)) : Bx w b p := ⟨cell_at h 0, cell_at h 1, cell_at h 2, cell_at h 3, cell_at h 4, cell_at h 5, cell_at h 6⟩

end Se
end Go.Proofs.YtaplbjoghkipdaaDoor

/- Whether one hold is right, of the program and of the model. -/
namespace Go.Proofs.YtaplbjoghkipdaaDoor
namespace Se
open Go.ChangeShapes Go.WideShapes Go.ChangeAt Go.RowKit
open Pk (new_below join_below cell_at heap_new frozen_at lt_of kept heap_old Drawn info_of own_form own_below Room)
set_option linter.unusedSimpArgs false
set_option linter.unusedVariables false

def inB (x lo hi : Int) : Bool := decide (lo ≤ x) && decide (x ≤ hi)
def stB (a b n : Int) : Bool := decide (0 ≤ a) && (decide (a < b) && decide (b < n))
def kyB (k : Ky) : Bool := inB k.tr 1 9999 && (inB k.dy 0 99999 && (inB k.co 1 99 && inB k.se 1 99))
/-- Whether a hold is right. -/
def holdB (p : Hl) : Bool := kyB (key p) && (stB p.ba p.be 20 && decide (1 ≤ p.od))

theorem in_is {x lo hi : Int} : inB x lo hi = true ↔ lo ≤ x ∧ x ≤ hi := by simp [inB]
theorem in_not {x lo hi : Int} : inB x lo hi = false ↔ ¬ (lo ≤ x ∧ x ≤ hi) := by
  rw [← in_is]
  simp
theorem st_is {a b n : Int} : stB a b n = true ↔ 0 ≤ a ∧ a < b ∧ b < n := by simp [stB]

theorem btw_yes (x lo hi : Int) (w : World) (h : inB x lo hi = true) :
    Calls Tryd.prog 16 #[.int .i64 x, .int .i64 lo, .int .i64 hi] w fun e w' => e = .returned (.bool true) ∧ w' = w := by
  obtain ⟨h1, h2⟩ := in_is.1 h
  have d1 : decide (lo ≤ x) = true := decide_eq_true h1
  have d2 : decide (x ≤ hi) = true := decide_eq_true h2
  clear h h1 h2
  go_enter Tryd.func16, Tryd.ntmps16
  go_wp2
  go_ret
  exact ⟨rfl, rfl⟩

theorem btw_no (x lo hi : Int) (w : World) (h : inB x lo hi = false) :
    Calls Tryd.prog 16 #[.int .i64 x, .int .i64 lo, .int .i64 hi] w fun e w' => e = .returned (.bool false) ∧ w' = w := by
  by_cases h1 : lo ≤ x
  · have h2 : ¬ x ≤ hi := fun h2 => in_not.1 h ⟨h1, h2⟩
    have d1 : decide (lo ≤ x) = true := decide_eq_true h1
    have d2 : decide (x ≤ hi) = false := decide_eq_false h2
    clear h h1 h2
    go_enter Tryd.func16, Tryd.ntmps16
    go_wp2
    go_ret
    exact ⟨rfl, rfl⟩
  · have d1 : decide (lo ≤ x) = false := decide_eq_false h1
    clear h h1
    go_enter Tryd.func16, Tryd.ntmps16
    go_wp2
    go_ret
    exact ⟨rfl, rfl⟩

theorem btw_val (x lo hi : Int) (w : World) : Calls Tryd.prog 16 #[.int .i64 x, .int .i64 lo, .int .i64 hi] w fun e w' => e = .returned (.bool (inB x lo hi)) ∧ w' = w := by
  cases h : inB x lo hi
  · exact btw_no x lo hi w h
  · exact btw_yes x lo hi w h

theorem ins_yes (x lo hi : Int) (w : World) (h : inB x lo hi = true) :
    Calls Tryd.prog 32 #[.int .i64 x, .int .i64 lo, .int .i64 hi] w fun e w' => e = .returned (.bool true) ∧ w' = w := by
  obtain ⟨h1, h2⟩ := in_is.1 h
  have d1 : decide (lo ≤ x) = true := decide_eq_true h1
  have d2 : decide (x ≤ hi) = true := decide_eq_true h2
  clear h h1 h2
  go_enter Tryd.func32, Tryd.ntmps32
  go_wp2
  go_ret
  exact ⟨rfl, rfl⟩

theorem ins_no (x lo hi : Int) (w : World) (h : inB x lo hi = false) :
    Calls Tryd.prog 32 #[.int .i64 x, .int .i64 lo, .int .i64 hi] w fun e w' => e = .returned (.bool false) ∧ w' = w := by
  by_cases h1 : lo ≤ x
  · have h2 : ¬ x ≤ hi := fun h2 => in_not.1 h ⟨h1, h2⟩
    have d1 : decide (lo ≤ x) = true := decide_eq_true h1
    have d2 : decide (x ≤ hi) = false := decide_eq_false h2
    clear h h1 h2
    go_enter Tryd.func32, Tryd.ntmps32
    go_wp2
    go_ret
    exact ⟨rfl, rfl⟩
  · have d1 : decide (lo ≤ x) = false := decide_eq_false h1
    clear h h1
    go_enter Tryd.func32, Tryd.ntmps32
    go_wp2
    go_ret
    exact ⟨rfl, rfl⟩

theorem ins_val (x lo hi : Int) (w : World) : Calls Tryd.prog 32 #[.int .i64 x, .int .i64 lo, .int .i64 hi] w fun e w' => e = .returned (.bool (inB x lo hi)) ∧ w' = w := by
  cases h : inB x lo hi
  · exact ins_no x lo hi w h
  · exact ins_yes x lo hi w h

/-- As the model says it. -/
def holdT (p : Hl) : Bool := inB p.tr 1 9999 && (inB p.dy 0 99999 && (inB p.co 1 99 && (inB p.se 1 99 && (inB p.ba 0 19 && (inB p.be (p.ba + 1) 19 && decide (1 ≤ p.od))))))

theorem holdT_is (p : Hl) : holdT p = holdB p := by
  rw [Bool.eq_iff_iff]
  simp only [holdT, holdB, kyB, key, Bool.and_eq_true, in_is, st_is, decide_eq_true_eq]
  omega

end Se
end Go.Proofs.YtaplbjoghkipdaaDoor

/- Contract of OfficeStart of the program. -/
namespace Go.Proofs.YtaplbjoghkipdaaDoor
namespace Of
open Go.ChangeShapes Go.WideShapes Go.ChangeAt Go.RowKit Go.Joins
open Pk (new_below join_below cell_at heap_new frozen_at lt_of kept heap_old info_of Room)
set_option linter.unusedSimpArgs false
set_option linter.unusedVariables false

open Tn (Tr Stops Trains Nums)
open Tf (Ed Edges)
open Se (inB in_is in_not)

theorem lines_len {ts : List Tr} (h : Tn.linesB ts = true) : ts.length ≤ 40 ∧ ∀ i (hi : i < ts.length), 2 ≤ ts[i].l.length ∧ ts[i].l.length ≤ 20 := by
  unfold Tn.linesB at h
  rw [Bool.and_eq_true] at h
  refine ⟨of_decide_eq_true h.2, fun i hi => ?_⟩
  have h1 := h.1
  unfold Tn.linesFrom at h1
  rw [List.all_eq_true] at h1
  have h2 := h1 i (by simpa using hi)
  unfold Tn.lineB at h2
  rw [Tn.getT_at ts i hi] at h2
  simp only [Bool.and_eq_true] at h2
  have h3 : Tn.okB ts[i].h ts[i].l = true := by first | exact h2.1 | exact h2.2
  unfold Tn.okB Tn.stopsB at h3
  simp only [Bool.and_eq_true] at h3
  have := Tn.inB_yes h3.2.1
  omega

theorem edges_cells {w : World} {b o : Nat} {l : List Ed} (I : Edges w (some ⟨b, o, none⟩) l) : ∀ j, j < l.length * 3 → ∃ v, w.cell? ⟨b, o + j, none⟩ = some v ∧ v.oneCell' = true := by
  intro j hj
  obtain ⟨b', o', e, -, c0, c1, c2⟩ := I.at (j / 3) (by omega)
  simp only [Option.some.injEq, Addr.mk.injEq, and_true] at e
  obtain ⟨rfl, rfl⟩ := e
  rcases (by omega : j % 3 = 0 ∨ j % 3 = 1 ∨ j % 3 = 2) with h | h | h
  · exact ⟨_, by rw [show o + j = o + j / 3 * 3 by omega]; exact c0, rfl⟩
  · exact ⟨_, by rw [show o + j = o + j / 3 * 3 + 1 by omega]; exact c1, rfl⟩
  · exact ⟨_, by rw [show o + j = o + j / 3 * 3 + 2 by omega]; exact c2, rfl⟩

/-- Edges that were copied: none, or a row of them, from lo on. -/
def Et (w : World) (lo : Nat) (a : Option Addr) (es : List Ed) : Prop := es.length = 0 ∨ ∃ g, a = some ⟨g, 0, none⟩ ∧ lo ≤ g ∧ g < w.heap.size ∧ Edges w (some ⟨g, 0, none⟩) es ∧ Room w g (es.length * 3)

theorem et_of {w w1 : World} {b o : Nat} {a : Option Addr} {es : List Ed} (I : Edges w (some ⟨b, o, none⟩) es) (C : Cloned w w1 a b o es.length 3) : Et w1 w.heap.size a es := by
  rcases C with h | ⟨g, rfl, h1, h2, h3, h4⟩
  · exact Or.inl h
  · refine Or.inr ⟨g, rfl, h1, h2, Or.inr ⟨g, 0, rfl, h2, fun i hi => ?_⟩, fun j hj => ?_⟩
    · obtain ⟨b', o', e, -, c0, c1, c2⟩ := I.at i hi
      simp only [Option.some.injEq, Addr.mk.injEq, and_true] at e
      obtain ⟨rfl, rfl⟩ := e
      rw [show 0 + i * 3 = i * 3 by omega, h3 (i * 3) (by omega), h3 (i * 3 + 1) (by omega), h3 (i * 3 + 2) (by omega)]
      exact ⟨c0, by rw [← Nat.add_assoc]; exact c1, by rw [← Nat.add_assoc]; exact c2⟩
    · obtain ⟨v, hv, -⟩ := edges_cells I j hj
      exact ⟨⟨v, by rw [h3 j hj]; exact hv⟩, h4 j⟩

theorem Et.on {w w1 : World} {lo : Nat} {a : Option Addr} {es : List Ed} (h : Et w lo a es) (L : Below w.heap.size w w1) : Et w1 lo a es := by
  rcases h with h | ⟨g, h1, h2, h3, h4, h5⟩
  · exact Or.inl h
  · exact Or.inr ⟨g, h1, h2, Nat.lt_of_lt_of_le h3 L.size, h4.on L, h5.on L h3⟩

theorem edges_off {w : World} {b o g i : Nat} {l : List Ed} {u : Value} (h : Edges w (some ⟨b, o, none⟩) l) (hne : b ≠ g) : Edges (w.setCell ⟨g, i, none⟩ u) (some ⟨b, o, none⟩) l := by
  rcases h with h | ⟨b', o', e, hb, hc⟩
  · exact Or.inl h
  · simp only [Option.some.injEq, Addr.mk.injEq, and_true] at e
    obtain ⟨rfl, rfl⟩ := e
    refine Or.inr ⟨b, o, rfl, by rw [World.size_setCell]; exact hb, fun j hj => ?_⟩
    rw [Od.cell_other (p := ⟨b, o + j * 3, none⟩) hne, Od.cell_other (p := ⟨b, o + j * 3 + 1, none⟩) hne, Od.cell_other (p := ⟨b, o + j * 3 + 2, none⟩) hne]
    exact hc j hj

theorem Et.off {w : World} {lo R i : Nat} {a : Option Addr} {es : List Ed} (h : Et w lo a es) (hR : R < lo) (u : Value) : Et (w.setCell ⟨R, i, none⟩ u) lo a es := by
  rcases h with h | ⟨g, h1, h2, h3, h4, h5⟩
  · exact Or.inl h
  · exact Or.inr ⟨g, h1, h2, by rw [World.size_setCell]; exact h3, edges_off h4 (by omega), h5.set R i u⟩

theorem Et.edges {w : World} {lo : Nat} {a : Option Addr} {es : List Ed} (h : Et w lo a es) : Edges w a es := by
  rcases h with h | ⟨g, rfl, -, -, h4, -⟩
  · exact Or.inl (List.eq_nil_of_length_eq_zero h)
  · exact h4

/-- Trains that were copied, all their blocks from lo up to mid. -/
def Lm (w : World) (lo mid : Nat) (a : Option Addr) (gf cf : Nat → Nat) (ts : List Tr) : Prop := ts.length = 0 ∨ ∃ g, a = some ⟨g, 0, none⟩ ∧ lo ≤ g ∧ g < mid ∧ mid ≤ w.heap.size ∧ Cp w lo g gf cf ts.length ts ∧ ∀ i, i < ts.length → gf i < mid

theorem Lt.lm {w : World} {lo : Nat} {a : Option Addr} {gf cf : Nat → Nat} {ts : List Tr} (h : Lt w lo a gf cf ts.length ts) : Lm w lo w.heap.size a gf cf ts := by
  rcases h with h | ⟨g, h1, h2, h3, h4⟩
  · exact Or.inl h
  · exact Or.inr ⟨g, h1, h2, h3, Nat.le_refl _, h4, fun i hi => (h4.each i hi hi).2.2.1⟩

theorem Lm.lt {w : World} {lo mid : Nat} {a : Option Addr} {gf cf : Nat → Nat} {ts : List Tr} (h : Lm w lo mid a gf cf ts) : Lt w lo a gf cf ts.length ts := by
  rcases h with h | ⟨g, h1, h2, h3, h4, h5, -⟩
  · exact Or.inl h
  · exact Or.inr ⟨g, h1, h2, by omega, h5⟩

theorem Lm.on {w w1 : World} {lo mid : Nat} {a : Option Addr} {gf cf : Nat → Nat} {ts : List Tr} (h : Lm w lo mid a gf cf ts) (L : Below w.heap.size w w1) : Lm w1 lo mid a gf cf ts := by
  rcases h with h | ⟨g, h1, h2, h3, h4, h5, h6⟩
  · exact Or.inl h
  · exact Or.inr ⟨g, h1, h2, h3, Nat.le_trans h4 L.size, h5.on L (by omega), h6⟩

theorem Lm.wide {w : World} {lo lo' mid : Nat} {a : Option Addr} {gf cf : Nat → Nat} {ts : List Tr} (h : Lm w lo mid a gf cf ts) (hl : lo' ≤ lo) : Lm w lo' mid a gf cf ts := by
  rcases h with h | ⟨g, h1, h2, h3, h4, h5, h6⟩
  · exact Or.inl h
  · refine Or.inr ⟨g, h1, by omega, h3, h4, ⟨h5.room, h5.nums, fun i hi hk => ?_, h5.apart, fun i hi hk => by omega⟩, h6⟩
    obtain ⟨q1, q⟩ := h5.each i hi hk
    exact ⟨by omega, q⟩

theorem Lm.off {w : World} {lo mid R i : Nat} {a : Option Addr} {gf cf : Nat → Nat} {ts : List Tr} (h : Lm w lo mid a gf cf ts) (hR : R < lo) (u : Value) : Lm (w.setCell ⟨R, i, none⟩ u) lo mid a gf cf ts := by
  rcases h with h | ⟨g, h1, h2, h3, h4, h5, h6⟩
  · exact Or.inl h
  · refine Or.inr ⟨g, h1, h2, h3, by rw [World.size_setCell]; exact h4, ⟨h5.room.set R i u, fun j hj => (h5.nums j hj).on fun k => Od.cell_other (p := ⟨g, k, none⟩) (by show g ≠ R; omega), fun j hj hk => ?_, h5.apart, fun j hj hk => by omega⟩, h6⟩
    obtain ⟨q1, q2, q3, q4, q5, q6⟩ := h5.each j hj hk
    exact ⟨q1, q2, by rw [World.size_setCell]; exact q3, by rw [Od.cell_other (p := ⟨g, j * 5 + 4, none⟩) (show g ≠ R by omega)]; exact q4, stops_off q5 (by omega), q6.set R i u⟩

/-- What an office that begins holds. -/
def St (w : World) (lo : Nat) (a2 a3 : Option Addr) (ts : List Tr) (es : List Ed) : Prop := ∃ mid gf cf, lo ≤ mid ∧ Lm w lo mid a2 gf cf ts ∧ Et w mid a3 es

theorem St.on {w w1 : World} {lo : Nat} {a2 a3 : Option Addr} {ts : List Tr} {es : List Ed} (h : St w lo a2 a3 ts es) (L : Below w.heap.size w w1) : St w1 lo a2 a3 ts es := by
  obtain ⟨mid, gf, cf, h1, h2, h3⟩ := h
  exact ⟨mid, gf, cf, h1, h2.on L, h3.on L⟩

theorem St.off {w : World} {lo R i : Nat} {a2 a3 : Option Addr} {ts : List Tr} {es : List Ed} (h : St w lo a2 a3 ts es) (hR : R < lo) (u : Value) : St (w.setCell ⟨R, i, none⟩ u) lo a2 a3 ts es := by
  obtain ⟨mid, gf, cf, h1, h2, h3⟩ := h
  exact ⟨mid, gf, cf, h1, h2.off hR u, h3.off (by omega) u⟩

theorem St.wide {w : World} {lo lo' : Nat} {a2 a3 : Option Addr} {ts : List Tr} {es : List Ed} (h : St w lo a2 a3 ts es) (hl : lo' ≤ lo) : St w lo' a2 a3 ts es := by
  obtain ⟨mid, gf, cf, h1, h2, h3⟩ := h
  exact ⟨mid, gf, cf, by omega, h2.wide hl, h3⟩

/-- Six cells stored into a block. -/
def put6 (w : World) (R : Nat) (v0 v1 v2 v3 v4 v5 : Value) : World := (((((w.setCell ⟨R, 0, none⟩ v0).setCell ⟨R, 1, none⟩ v1).setCell ⟨R, 2, none⟩ v2).setCell ⟨R, 3, none⟩ v3).setCell ⟨R, 4, none⟩ v4).setCell ⟨R, 5, none⟩ v5

theorem St.put {w : World} {lo R : Nat} {a2 a3 : Option Addr} {ts : List Tr} {es : List Ed} (h : St w lo a2 a3 ts es) (hR : R < lo) (v0 v1 v2 v3 v4 v5 : Value) : St (put6 w R v0 v1 v2 v3 v4 v5) lo a2 a3 ts es :=
  (((((h.off hR v0).off hR v1).off hR v2).off hR v3).off hR v4).off hR v5

theorem put6_below {B R : Nat} {a w : World} (h : Below B a w) (hR : B ≤ R) (v0 v1 v2 v3 v4 v5 : Value) : Below B a (put6 w R v0 v1 v2 v3 v4 v5) :=
  (((((h.setCell (p := ⟨R, 0, none⟩) hR v0).setCell (p := ⟨R, 1, none⟩) hR v1).setCell (p := ⟨R, 2, none⟩) hR v2).setCell (p := ⟨R, 3, none⟩) hR v3).setCell (p := ⟨R, 4, none⟩) hR v4).setCell (p := ⟨R, 5, none⟩) hR v5

/-- Whether an office can begin. -/
def startB (ts : List Tr) (es : List Ed) (td : Int) : Bool := Tn.linesB ts && (Tf.tarB es && inB td 0 90000)

end Of
end Go.Proofs.YtaplbjoghkipdaaDoor

/- Contract of OfficeStart of the model. -/
namespace Go.Proofs.YtaplbjoghkipdaaDoor
namespace Of
open Go.ChangeShapes Go.WideShapes Go.ChangeAt Go.RowKit Go.Joins
open Pk (new_below join_below cell_at heap_new frozen_at lt_of kept heap_old info_of Room)
set_option linter.unusedSimpArgs false
set_option linter.unusedVariables false

open Tn (Tr Stops Trains Nums scells)
open Tf (Ed Edges)
open Se (inB in_is in_not)

/-- A train's cells. -/
def tc1 (t : Tn.Hd) (v : Value) : List Value := [.int .i64 t.id, .int .i64 t.dy, .int .i64 t.co, .int .i64 t.se, v]

/-- The cells of the first k trains, whose stops are the slices ps. -/
structure Xs (xs : List Value) (k : Nat) (ts : List Tr) (ps : Nat → Value) : Prop where
  len : xs.length = k * 5
  at_ : ∀ i (h : i < ts.length), i < k → ∀ r, r < 5 → xs[i * 5 + r]? = (tc1 ts[i].h (ps i))[r]?

theorem Xs.snoc {xs : List Value} {k : Nat} {ts : List Tr} {ps : Nat → Value} (h : Xs xs k ts ps) (hk : k < ts.length) (v : Value) : Xs (xs ++ tc1 ts[k].h v) (k + 1) ts (fun i => if i = k then v else ps i) := by
  refine ⟨by rw [List.length_append, h.len]; simp [tc1]; omega, fun i hi hik r hr => ?_⟩
  by_cases e : i = k
  · subst e
    simp only [if_true]
    rw [List.getElem?_append_right (by rw [h.len]; omega), h.len]
    congr 1
    omega
  · simp only [if_neg e]
    rw [List.getElem?_append_left (by rw [h.len]; omega)]
    exact h.at_ i hi (by omega) r hr

theorem own_grown {w w1 : World} {base e size : Nat} {v : Value} {n : Nat} {xs : List Value} {row : Option Nat} (h : w.ownsRow base e size v n xs) (hg : w.grownBy w1 row) (hne : ∀ g cs f, w.heap[g]? = some (.cells cs e f) → some g ≠ row) : w1.ownsRow base e size v n xs := by
  obtain ⟨h1, h2⟩ := h
  refine ⟨h1, ?_⟩
  rcases h2 with h2 | ⟨g, cap, cur, hv, hg', hh, hr⟩
  · exact Or.inl h2
  · exact Or.inr ⟨g, cap, cur, hv, hg', (hg.block g (lt_of hh) (hne g _ _ hh)).trans hh, hr⟩

/-- The stops of the first k trains, in rows of their own. -/
def Rows5 (w : World) (base k : Nat) (ts : List Tr) (ps : Nat → Value) : Prop := ∀ i (h : i < ts.length), i < k → (∃ a c, ps i = .slice a ts[i].l.length c) ∧ w.ownsRow base 75 3 (ps i) ts[i].l.length (scells ts[i].l)

/-- Trains, all of whose blocks lie from lo on. -/
def Lw (w : World) (lo : Nat) (a : Option Addr) (ts : List Tr) : Prop := ts.length = 0 ∨ ∃ g, a = some ⟨g, 0, none⟩ ∧ lo ≤ g ∧ g < w.heap.size ∧ ∀ i (h : i < ts.length), Nums w g (i * 5) ts[i].h ∧ ∃ gi ci, lo ≤ gi ∧ w.cell? ⟨g, i * 5 + 4, none⟩ = some (.slice (some ⟨gi, 0, none⟩) ts[i].l.length ci) ∧ Stops w (some ⟨gi, 0, none⟩) ts[i].l

theorem Lw.kp {w w1 : World} {lo : Nat} {a : Option Addr} {ts : List Tr} (h : Lw w lo a ts) (k : Kp lo w w1) : Lw w1 lo a ts := by
  rcases h with h | ⟨g, h0, h1, h2, h3⟩
  · exact Or.inl h
  · refine Or.inr ⟨g, h0, h1, Nat.lt_of_lt_of_le h2 k.1, fun i hi => ?_⟩
    obtain ⟨⟨n0, n1, n2, n3⟩, gi, ci, q1, q2, q3⟩ := h3 i hi
    exact ⟨⟨by rw [k.2 ⟨g, i * 5, none⟩ h1 h2]; exact n0, by rw [k.2 ⟨g, i * 5 + 1, none⟩ h1 h2]; exact n1, by rw [k.2 ⟨g, i * 5 + 2, none⟩ h1 h2]; exact n2, by rw [k.2 ⟨g, i * 5 + 3, none⟩ h1 h2]; exact n3⟩, gi, ci, q1, by rw [k.2 ⟨g, i * 5 + 4, none⟩ h1 h2]; exact q2, stops_kp q3 q1 k⟩

theorem Lw.trains {w : World} {lo : Nat} {a : Option Addr} {ts : List Tr} (h : Lw w lo a ts) : Trains w a ts := by
  rcases h with h | ⟨g, rfl, h1, h2, h3⟩
  · exact Or.inl (List.eq_nil_of_length_eq_zero h)
  · refine Or.inr ⟨g, 0, rfl, h2, fun i hi => ?_⟩
    obtain ⟨q, gi, ci, q1, q2, q3⟩ := h3 i hi
    rw [Nat.zero_add]
    exact ⟨q, gi, 0, ci, q2, q3⟩

theorem rows_trains {w : World} {base : Nat} {a : Option Addr} {c : Nat} {xs : List Value} {ts : List Tr} {ps : Nat → Value} (hs : ∀ i (h : i < ts.length), 1 ≤ ts[i].l.length) (O : w.ownsRow base 72 5 (.slice a ts.length c) ts.length xs) (X : Xs xs ts.length ts ps) (R : Rows5 w base ts.length ts ps) : Lw w base a ts := by
  by_cases h0 : ts.length = 0
  · exact Or.inl h0
  · obtain ⟨g, cap, hv, h1, h2, h3, h4⟩ := own_g O (by omega)
    simp only [Value.slice.injEq] at hv
    obtain ⟨rfl, -, rfl⟩ := hv
    refine Or.inr ⟨g, rfl, h1, h2, fun i hi => ?_⟩
    obtain ⟨⟨ai, ci, he⟩, OR⟩ := R i hi hi
    rw [he] at OR
    have S := Tn.stops_own OR
    obtain ⟨a', c', hv', hor⟩ := Pk.own_form OR
    simp only [Value.slice.injEq] at hv'
    obtain ⟨rfl, -, rfl⟩ := hv'
    have hl := hs i hi
    obtain ⟨gi, rfl⟩ := hor.resolve_left (by omega)
    refine ⟨⟨h3 _ _ ?_, h3 _ _ ?_, h3 _ _ ?_, h3 _ _ ?_⟩, gi, ci, (OR.lt gi rfl).1, h3 _ _ ?_, S⟩
    · have := X.at_ i hi hi 0 (by omega); rw [Nat.add_zero] at this; rw [this]; rfl
    · rw [X.at_ i hi hi 1 (by omega)]; rfl
    · rw [X.at_ i hi hi 2 (by omega)]; rfl
    · rw [X.at_ i hi hi 3 (by omega)]; rfl
    · rw [X.at_ i hi hi 4 (by omega), he]; rfl

theorem five_at {w : World} {b : Nat} {t : Tn.Hd} {v : Value} {ty : TypeId} {f : Nat × Nat} (h : w.heap[b]? = some (.cells #[.int .i64 t.id, .int .i64 t.dy, .int .i64 t.co, .int .i64 t.se, v] ty f)) : ∀ j u, (tc1 t v)[j]? = some u → w.cell? (Addr.add ⟨b, 0, none⟩ j) = some u := by
  intro j u hu
  rw [Od.add_plain, Nat.zero_add, cell_at h j]
  have hj := (List.getElem?_eq_some_iff.1 hu).1
  simpa [tc1] using hu

set_option maxRecDepth 100000 in
set_option maxHeartbeats 4000000 in
theorem copyS_val (a : Option Addr) (ts : List Tr) (cap : Nat) (w : World) (hn : ts.length ≤ 1048576) (hs : ∀ i (h : i < ts.length), 1 ≤ ts[i].l.length ∧ ts[i].l.length ≤ 1048576) (I : Trains w a ts) :
    Calls Tryd.prog 53 #[.slice a ts.length cap] w fun e w' => ∃ a' c', e = .returned (.slice a' ts.length c') ∧ Lw w' w.heap.size a' ts ∧ Below w.heap.size w w' := by
  have HS : Hid (∀ i (h : i < ts.length), 1 ≤ ts[i].l.length ∧ ts[i].l.length ≤ 1048576) := hs
  obtain ⟨i0, hi, hz0, hz1, hz2⟩ := info_of Tn.info_train
  have N0 := new_below w (.cells #[] 72)
  have O0 := nil_row w 72 5
  clear hs
  go_enter Tryd.func53, Tryd.ntmps53
  go_wp2
  generalize w.alloc (.cells #[] 72) = W0 at *
  go_loopw [3, 4] (fun v i wr => ∃ (k : Nat) (xs : List Value) (ps : Nat → Value), k ≤ ts.length ∧ i = .int .i64 k ∧ Below w.heap.size w wr ∧ Hid (wr.ownsRow w.heap.size 72 5 v k xs) ∧ Hid (Xs xs k ts ps) ∧ Hid (Rows5 wr w.heap.size k ts ps)) (fun _ i _ => ts.length - (intOf i).toNat)
  case atStart => exact ⟨0, [], fun _ => undef, by omega, rfl, N0, O0, ⟨rfl, fun i hi h => by omega⟩, fun i hi h => by omega⟩
  case round =>
    obtain ⟨k, xs, ps, hk, rfl, L, HO, HX, HR⟩ := hrel
    obtain ⟨qa, qc, rfl, -⟩ := Pk.own_form HO.out
    by_cases hkn : k < ts.length
    · obtain ⟨b, o, bi, oi, ci, rfl, hlt, c0, c1, c2, c3, c4, S⟩ := (I.on L).at k hkn
      have hsk := (HS.out k hkn).2
      have HC : Hid (∀ _ : Unit, _) := fun _ => Tn.copyTrain_val ts[k].h bi oi ci ts[k].l wr hsk S
      have HSN : Hid (∀ v, Xs (xs ++ tc1 ts[k].h v) (k + 1) ts (fun i => if i = k then v else ps i)) := fun v => HX.out.snoc hkn v
      have hlw := L.size
      clear S
      go_wp2_with fail
      refine (HC.out ()).mono ?_
      rintro e w2 ⟨va, vc, rfl, O2, L2⟩
      have O3 := Pk.own_below HO.out L2 (Nat.le_refl _)
      have LL := L.trans (L2.mono L.size)
      have N3 := new_below w2 (.cells #[.int .i64 ts[k].h.id, .int .i64 ts[k].h.dy, .int .i64 ts[k].h.co, .int .i64 ts[k].h.se, .slice va ts[k].l.length vc] 72)
      have m3 := heap_new w2 (.cells #[.int .i64 ts[k].h.id, .int .i64 ts[k].h.dy, .int .i64 ts[k].h.co, .int .i64 ts[k].h.se, .slice va ts[k].l.length vc] 72)
      have O4 := Pk.own_below O3 N3 (Nat.le_refl _)
      have L4 := LL.trans (N3.mono LL.size)
      have hz4 : w.heap.size ≤ (w2.alloc (.cells #[.int .i64 ts[k].h.id, .int .i64 ts[k].h.dy, .int .i64 ts[k].h.co, .int .i64 ts[k].h.se, .slice va ts[k].l.length vc] 72)).heap.size := L4.size
      have HRR : Hid (∀ w9, (w2.alloc (.cells #[.int .i64 ts[k].h.id, .int .i64 ts[k].h.dy, .int .i64 ts[k].h.co, .int .i64 ts[k].h.se, .slice va ts[k].l.length vc] 72)).grownBy w9 (Value.slice qa k qc).ownBlock → Rows5 w9 w.heap.size (k + 1) ts (fun i => if i = k then .slice va ts[k].l.length vc else ps i)) := by
        intro w9 G i hi hik
        have hne : ∀ g cs f, (w2.alloc (.cells #[.int .i64 ts[k].h.id, .int .i64 ts[k].h.dy, .int .i64 ts[k].h.co, .int .i64 ts[k].h.se, .slice va ts[k].l.length vc] 72)).heap[g]? = some (.cells cs 75 f) → some g ≠ (Value.slice qa k qc).ownBlock := fun g cs f hh => Pk.own_ne O4 hh (by decide)
        by_cases e : i = k
        · subst e
          simp only [if_true]
          exact ⟨⟨va, vc, rfl⟩, own_grown (Pk.own_below (Tn.own_base' O2 hlw) N3 (Nat.le_refl _)) G hne⟩
        · simp only [if_neg e]
          obtain ⟨q1, q2⟩ := HR.out i hi (by omega)
          exact ⟨q1, own_grown (Pk.own_below (Pk.own_below q2 L2 (Nat.le_refl _)) N3 (Nat.le_refl _)) G hne⟩
      have HSV : Hid (Xs _ _ _ _) := HSN.out (.slice va ts[k].l.length vc)
      clear HC HSN O2 O3 L2 LL N3 HO HX HR c0 c1 c2 c3 c4 hsk
      go_wp2_with (at_builtin; refine wpList_append_own_at _ rfl _ _ 54 rfl w.heap.size 72 i0 (Tn.trV ⟨0, 0, 0, 0⟩ none 0 0) 5 56 Tryd.underlying54 hi hz0 hz1 hz2 rfl (by decide) _ _ _ rfl O4 ⟨w2.heap.size, 0, none⟩ 1 1 (tc1 ts[k].h (.slice va ts[k].l.length vc)) rfl rfl ?c1 ?c2 ?c3 ?c4 ?c5 ?_)
      case c1 => exact five_at m3
      case c2 => intro u hu; simp [tc1] at hu; rcases hu with rfl | rfl | rfl | rfl | rfl <;> rfl
      case c3 => unfold maxLen; omega
      case c4 => omega
      case c5 => exact hz4
      intro v' w5 O5 G5 _ _
      have L5 : Below w.heap.size w w5 := L4.grown G5 hz4 (fun j hj => (O4.lt j hj).1)
      have HR5 : Hid (Rows5 _ _ _ _ _) := HRR.out w5 G5
      have HO5 : Hid (World.ownsRow _ _ _ _ _ _ _) := O5
      clear O4 O5 G5 L4 hz4 HRR m3
      go_wp2
      go_roundw
      case rel => exact ⟨k + 1, _, _, by omega, by go_num, L5, HO5, HSV, HR5⟩
      case measure => simp [intOf]; omega
    · obtain rfl : k = ts.length := by omega
      have HTR : Hid (Lw wr w.heap.size qa ts) := rows_trains (fun i h => (HS.out i h).1) HO.out HX.out HR.out
      clear HO HX HR
      go_wp2
      go_ret
      exact ⟨qa, qc, rfl, HTR.out, L⟩

theorem Et.put {w : World} {lo R : Nat} {a : Option Addr} {es : List Ed} (h : Et w lo a es) (hR : R < lo) (v0 v1 v2 v3 v4 v5 : Value) : Et (put6 w R v0 v1 v2 v3 v4 v5) lo a es :=
  (((((h.off hR v0).off hR v1).off hR v2).off hR v3).off hR v4).off hR v5

theorem et_mk {w w1 : World} {b o lo : Nat} {a : Option Addr} {es : List Ed} (I : Edges w (some ⟨b, o, none⟩) es) (C : es.length = 0 ∨ ∃ g, a = some ⟨g, 0, none⟩ ∧ lo ≤ g ∧ g < w1.heap.size ∧ (∀ j, j < es.length * 3 → w1.cell? ⟨g, j, none⟩ = w.cell? ⟨b, o + j, none⟩) ∧ ∀ i, w1.frozen? ⟨g, i, none⟩ = false) : Et w1 lo a es := by
  rcases C with h | ⟨g, rfl, h1, h2, h3, h4⟩
  · exact Or.inl h
  · refine Or.inr ⟨g, rfl, h1, h2, Or.inr ⟨g, 0, rfl, h2, fun i hi => ?_⟩, fun j hj => ?_⟩
    · obtain ⟨b', o', e, -, c0, c1, c2⟩ := I.at i hi
      simp only [Option.some.injEq, Addr.mk.injEq, and_true] at e
      obtain ⟨rfl, rfl⟩ := e
      rw [show 0 + i * 3 = i * 3 by omega, h3 (i * 3) (by omega), h3 (i * 3 + 1) (by omega), h3 (i * 3 + 2) (by omega)]
      exact ⟨c0, by rw [← Nat.add_assoc]; exact c1, by rw [← Nat.add_assoc]; exact c2⟩
    · obtain ⟨v, hv, -⟩ := edges_cells I j hj
      exact ⟨⟨v, by rw [h3 j hj]; exact hv⟩, h4 j⟩

theorem put6_kp {lo R : Nat} {w : World} (h : R < lo) (v0 v1 v2 v3 v4 v5 : Value) : Kp lo w (put6 w R v0 v1 v2 v3 v4 v5) :=
  (((((Kp.set v0 h).trans (Kp.set v1 h)).trans (Kp.set v2 h)).trans (Kp.set v3 h)).trans (Kp.set v4 h)).trans (Kp.set v5 h)

set_option maxRecDepth 100000 in
set_option maxHeartbeats 4000000 in
theorem specStart_yes (b o d u : Nat) (ts : List Tr) (es : List Ed) (cap cap2 : Nat) (td : Int) (w : World) (hm : es.length ≤ 1048576) (hd : d < w.heap.size) (I : Trains w (some ⟨b, o, none⟩) ts) (J : Edges w (some ⟨d, u, none⟩) es) (hB : startB ts es td = true) :
    Calls Tryd.prog 40 #[.slice (some ⟨b, o, none⟩) ts.length cap, .slice (some ⟨d, u, none⟩) es.length cap2, .int .i64 td] w fun e w' => ∃ a2 c2 a3 c3, e = .returned (.tuple #[.agg #[.slice a2 ts.length c2, .slice a3 es.length c3, .slice none 0 0, .slice none 0 0, .slice none 0 0, .int .i64 td], .bool true]) ∧ Trains w' a2 ts ∧ Edges w' a3 es ∧ Below w.heap.size w w' := by
  unfold startB at hB
  simp only [Bool.and_eq_true] at hB
  obtain ⟨b1, b2, b3⟩ := hB
  obtain ⟨q1, q2⟩ := lines_len b1
  obtain ⟨i0, hi, hz0, hz1, hz2⟩ := info_of Tf.info_edge
  have N := new_below w (.cells #[.slice none 0 0, .slice none 0 0, .slice none 0 0, .slice none 0 0, .slice none 0 0, .int .i64 0] 60)
  have m0 := heap_new w (.cells #[.slice none 0 0, .slice none 0 0, .slice none 0 0, .slice none 0 0, .slice none 0 0, .int .i64 0] 60)
  have HL : Hid (∀ _ : Unit, _) := fun _ => Tn.specLines_val (some ⟨b, o, none⟩) ts cap _ (by unfold maxLen; omega) (fun i h => by have := q2 i h; unfold maxLen; omega) (I.on N)
  have HT : Hid (∀ wx, Below w.heap.size w wx → _) := fun wx (L : Below w.heap.size w wx) => Tf.specTariff_val (some ⟨d, u, none⟩) es cap2 wx (by unfold maxLen; omega) (J.on L)
  have HB : Hid (∀ wx, _) := fun wx => Se.ins_yes td 0 90000 wx b3
  have HO : Hid (∀ wx, Below w.heap.size w wx → _) := fun wx (L : Below w.heap.size w wx) => copyS_val (some ⟨b, o, none⟩) ts cap wx (by omega) (fun i h => by have := q2 i h; omega) (I.on L)
  rw [b1] at HL
  rw [b2] at HT
  clear b1 b2 b3 q1 q2 I
  go_enter Tryd.func40, Tryd.ntmps40
  go_wp2_with fail
  refine (HL.out ()).mono ?_
  rintro e w1 ⟨rfl, L1⟩
  have m1 := kept L1 (lt_of m0) m0
  have N1 := join_below N L1
  clear m0 N L1
  go_wp2_with fail
  refine (HT.out _ N1).mono ?_
  rintro e w2 ⟨rfl, L2⟩
  have m2 := kept L2 (lt_of m1) m1
  have N2 := join_below N1 L2
  clear m1 N1 L2
  go_wp2_with fail
  refine (HB.out _).mono ?_
  rintro e w3 ⟨rfl, hw3⟩
  have hw4 := hw3.symm
  clear hw3
  subst hw4
  go_wp2_with fail
  refine (HO.out _ N2).mono ?_
  rintro e w4 ⟨a2, c2, rfl, S4, L4⟩
  have m4 := kept L4 (lt_of m2) m2
  have N4 := join_below N2 L4
  have hR : w.heap.size < w2.heap.size := lt_of m2
  clear m2 N2
  have N5 := new_below w4 (.cells #[] 95)
  have O5 := nil_row w4 95 3
  have J5 := J.on (join_below N4 N5)
  have H5 := edges_cells J5
  have m5 := kept N5 (lt_of m4) m4
  have B5 := join_below N4 N5
  have hz5 : w4.heap.size ≤ (w4.alloc (.cells #[] 95)).heap.size := N5.size
  have h24 : w2.heap.size ≤ w4.heap.size := L4.size
  clear m4 L4 HO HB HT HL N4
  go_wp2_with (at_builtin; refine wpList_append_own_at _ rfl _ _ 55 rfl w4.heap.size 95 i0 (Tf.lgV ⟨0, 0, 0⟩) 3 24 Tryd.underlying55 hi hz0 hz1 hz2 rfl (by decide) _ _ _ rfl O5 ⟨d, u, none⟩ es.length cap2 (snap (w4.alloc (.cells #[] 95)) d u (es.length * 3)) rfl ?c0 ?c1 ?c2 ?c3 ?c4 ?c5 ?_)
  case c0 => rw [snap_len]
  case c1 => exact snap_get H5
  case c2 => exact snap_one H5
  case c3 => unfold maxLen; omega
  case c4 => omega
  case c5 => exact hz5
  intro v' w6 O6 G6 _ _
  have L6 : Below w4.heap.size (w4.alloc (.cells #[] 95)) w6 := (Below.refl _ _).grown G6 hz5 (fun j hj => (O5.lt j hj).1)
  try rw [Nat.zero_add, List.nil_append] at O6
  obtain ⟨a3, c3, rfl, -⟩ := Pk.own_form O6
  have m6 := kept L6 (by have := lt_of m5; omega) m5
  have HE : Hid (Et w6 w4.heap.size a3 es) := by
    refine et_mk J5 ?_
    by_cases h0 : es.length = 0
    · exact Or.inl h0
    · obtain ⟨g, c, hv, h1, h2, h3, h4⟩ := own_g O6 (by omega)
      simp only [Value.slice.injEq] at hv
      refine Or.inr ⟨g, hv.1, h1, h2, fun j hj => ?_, h4⟩
      obtain ⟨z, hz, -⟩ := H5 j hj
      rw [hz]
      exact h3 j z (by rw [snap_at H5 j hj, hz])
  have K6 : Kp w2.heap.size w4 w6 := ⟨Nat.le_trans hz5 G6.size, fun p _ hq => by rw [L6.cell hq, N5.cell hq]⟩
  have S6 := S4.kp K6
  have B6 : Below w.heap.size w w6 := B5.grown G6 B5.size (fun j hj => by have := (O5.lt j hj).1; omega)
  have z0 : w6.cell? ⟨w.heap.size, 0, none⟩ = some (.slice none 0 0) := cell_at m6 0
  have f0 : w6.frozen? ⟨w.heap.size, 0, none⟩ = false := frozen_at m6 0
  have z1 : w6.cell? ⟨w.heap.size, 1, none⟩ = some (.slice none 0 0) := cell_at m6 1
  have f1 : w6.frozen? ⟨w.heap.size, 1, none⟩ = false := frozen_at m6 1
  have z2 : w6.cell? ⟨w.heap.size, 2, none⟩ = some (.slice none 0 0) := cell_at m6 2
  have f2 : w6.frozen? ⟨w.heap.size, 2, none⟩ = false := frozen_at m6 2
  have z3 : w6.cell? ⟨w.heap.size, 3, none⟩ = some (.slice none 0 0) := cell_at m6 3
  have f3 : w6.frozen? ⟨w.heap.size, 3, none⟩ = false := frozen_at m6 3
  have z4 : w6.cell? ⟨w.heap.size, 4, none⟩ = some (.slice none 0 0) := cell_at m6 4
  have f4 : w6.frozen? ⟨w.heap.size, 4, none⟩ = false := frozen_at m6 4
  have z5 : w6.cell? ⟨w.heap.size, 5, none⟩ = some (.int .i64 0) := cell_at m6 5
  have f5 : w6.frozen? ⟨w.heap.size, 5, none⟩ = false := frozen_at m6 5
  clear O5 O6 G6 L6 K6 S4 N5 m5 m6 J5 H5 hz5 B5 J
  go_wp2
  refine bodyPost_ret (v := .tuple #[.agg #[.slice a2 ts.length c2, .slice a3 es.length c3, .slice none 0 0, .slice none 0 0, .slice none 0 0, .int .i64 td], .bool true]) (by simp [results, Tryd.results40, go_sem, z0, z1, z2, z3, z4, z5]) rfl ?_
  exact ⟨a2, c2, a3, c3, rfl, (S6.kp (put6_kp hR _ _ _ _ _ _)).trains, (HE.out.put (by omega) _ _ _ _ _ _).edges, put6_below B6 (Nat.le_refl _) _ _ _ _ _ _⟩

set_option maxRecDepth 100000 in
set_option maxHeartbeats 2000000 in
theorem specStart_no (b o d u : Nat) (ts : List Tr) (es : List Ed) (cap cap2 : Nat) (td : Int) (w : World) (hn : ts.length ≤ maxLen) (hs : ∀ i (h : i < ts.length), ts[i].l.length ≤ maxLen) (hm : es.length ≤ maxLen) (I : Trains w (some ⟨b, o, none⟩) ts) (J : Edges w (some ⟨d, u, none⟩) es) (hB : startB ts es td = false) :
    Calls Tryd.prog 40 #[.slice (some ⟨b, o, none⟩) ts.length cap, .slice (some ⟨d, u, none⟩) es.length cap2, .int .i64 td] w fun e w' => e = .returned (.tuple #[.agg #[.slice none 0 0, .slice none 0 0, .slice none 0 0, .slice none 0 0, .slice none 0 0, .int .i64 0], .bool false]) ∧ Below w.heap.size w w' := by
  have N := new_below w (.cells #[.slice none 0 0, .slice none 0 0, .slice none 0 0, .slice none 0 0, .slice none 0 0, .int .i64 0] 60)
  have m0 := heap_new w (.cells #[.slice none 0 0, .slice none 0 0, .slice none 0 0, .slice none 0 0, .slice none 0 0, .int .i64 0] 60)
  have HL : Hid (∀ _ : Unit, _) := fun _ => Tn.specLines_val (some ⟨b, o, none⟩) ts cap _ hn hs (I.on N)
  have HT : Hid (∀ wx, Below w.heap.size w wx → _) := fun wx (L : Below w.heap.size w wx) => Tf.specTariff_val (some ⟨d, u, none⟩) es cap2 wx hm (J.on L)
  clear I J hn hs hm
  cases b1 : Tn.linesB ts
  · rw [b1] at HL
    clear b1 HT hB
    go_enter Tryd.func40, Tryd.ntmps40
    go_wp2_with fail
    refine (HL.out ()).mono ?_
    rintro e w1 ⟨rfl, L1⟩
    have m1 := kept L1 (lt_of m0) m0
    have N1 := join_below N L1
    have z0 : w1.cell? ⟨w.heap.size, 0, none⟩ = some (.slice none 0 0) := cell_at m1 0
    have f0 : w1.frozen? ⟨w.heap.size, 0, none⟩ = false := frozen_at m1 0
    have z1 : w1.cell? ⟨w.heap.size, 1, none⟩ = some (.slice none 0 0) := cell_at m1 1
    have f1 : w1.frozen? ⟨w.heap.size, 1, none⟩ = false := frozen_at m1 1
    have z2 : w1.cell? ⟨w.heap.size, 2, none⟩ = some (.slice none 0 0) := cell_at m1 2
    have f2 : w1.frozen? ⟨w.heap.size, 2, none⟩ = false := frozen_at m1 2
    have z3 : w1.cell? ⟨w.heap.size, 3, none⟩ = some (.slice none 0 0) := cell_at m1 3
    have f3 : w1.frozen? ⟨w.heap.size, 3, none⟩ = false := frozen_at m1 3
    have z4 : w1.cell? ⟨w.heap.size, 4, none⟩ = some (.slice none 0 0) := cell_at m1 4
    have f4 : w1.frozen? ⟨w.heap.size, 4, none⟩ = false := frozen_at m1 4
    have z5 : w1.cell? ⟨w.heap.size, 5, none⟩ = some (.int .i64 0) := cell_at m1 5
    have f5 : w1.frozen? ⟨w.heap.size, 5, none⟩ = false := frozen_at m1 5
    clear m0 N L1 m1
    go_wp2
    refine bodyPost_ret (v := .tuple #[.agg #[.slice none 0 0, .slice none 0 0, .slice none 0 0, .slice none 0 0, .slice none 0 0, .int .i64 0], .bool false]) (by simp [results, Tryd.results40, go_sem, z0, z1, z2, z3, z4, z5]) rfl ?_
    exact ⟨rfl, put6_below N1 (Nat.le_refl _) _ _ _ _ _ _⟩
  · cases b2 : Tf.tarB es
    · rw [b1] at HL
      rw [b2] at HT
      clear b1 b2 hB
      go_enter Tryd.func40, Tryd.ntmps40
      go_wp2_with fail
      refine (HL.out ()).mono ?_
      rintro e w1 ⟨rfl, L1⟩
      have m1 := kept L1 (lt_of m0) m0
      have N1 := join_below N L1
      clear m0 N L1
      go_wp2_with fail
      refine (HT.out _ N1).mono ?_
      rintro e w2 ⟨rfl, L2⟩
      have m2 := kept L2 (lt_of m1) m1
      have N2 := join_below N1 L2
      have z0 : w2.cell? ⟨w.heap.size, 0, none⟩ = some (.slice none 0 0) := cell_at m2 0
      have f0 : w2.frozen? ⟨w.heap.size, 0, none⟩ = false := frozen_at m2 0
      have z1 : w2.cell? ⟨w.heap.size, 1, none⟩ = some (.slice none 0 0) := cell_at m2 1
      have f1 : w2.frozen? ⟨w.heap.size, 1, none⟩ = false := frozen_at m2 1
      have z2 : w2.cell? ⟨w.heap.size, 2, none⟩ = some (.slice none 0 0) := cell_at m2 2
      have f2 : w2.frozen? ⟨w.heap.size, 2, none⟩ = false := frozen_at m2 2
      have z3 : w2.cell? ⟨w.heap.size, 3, none⟩ = some (.slice none 0 0) := cell_at m2 3
      have f3 : w2.frozen? ⟨w.heap.size, 3, none⟩ = false := frozen_at m2 3
      have z4 : w2.cell? ⟨w.heap.size, 4, none⟩ = some (.slice none 0 0) := cell_at m2 4
      have f4 : w2.frozen? ⟨w.heap.size, 4, none⟩ = false := frozen_at m2 4
      have z5 : w2.cell? ⟨w.heap.size, 5, none⟩ = some (.int .i64 0) := cell_at m2 5
      have f5 : w2.frozen? ⟨w.heap.size, 5, none⟩ = false := frozen_at m2 5
      clear m1 N1 L2 m2
      go_wp2
      refine bodyPost_ret (v := .tuple #[.agg #[.slice none 0 0, .slice none 0 0, .slice none 0 0, .slice none 0 0, .slice none 0 0, .int .i64 0], .bool false]) (by simp [results, Tryd.results40, go_sem, z0, z1, z2, z3, z4, z5]) rfl ?_
      exact ⟨rfl, put6_below N2 (Nat.le_refl _) _ _ _ _ _ _⟩
    · have b3 : inB td 0 90000 = false := by
        unfold startB at hB
        rw [b1, b2] at hB
        simpa using hB
      have HB : Hid (∀ wx, _) := fun wx => Se.ins_no td 0 90000 wx b3
      rw [b1] at HL
      rw [b2] at HT
      clear b1 b2 b3 hB
      go_enter Tryd.func40, Tryd.ntmps40
      go_wp2_with fail
      refine (HL.out ()).mono ?_
      rintro e w1 ⟨rfl, L1⟩
      have m1 := kept L1 (lt_of m0) m0
      have N1 := join_below N L1
      clear m0 N L1
      go_wp2_with fail
      refine (HT.out _ N1).mono ?_
      rintro e w2 ⟨rfl, L2⟩
      have m2 := kept L2 (lt_of m1) m1
      have N2 := join_below N1 L2
      have z0 : w2.cell? ⟨w.heap.size, 0, none⟩ = some (.slice none 0 0) := cell_at m2 0
      have f0 : w2.frozen? ⟨w.heap.size, 0, none⟩ = false := frozen_at m2 0
      have z1 : w2.cell? ⟨w.heap.size, 1, none⟩ = some (.slice none 0 0) := cell_at m2 1
      have f1 : w2.frozen? ⟨w.heap.size, 1, none⟩ = false := frozen_at m2 1
      have z2 : w2.cell? ⟨w.heap.size, 2, none⟩ = some (.slice none 0 0) := cell_at m2 2
      have f2 : w2.frozen? ⟨w.heap.size, 2, none⟩ = false := frozen_at m2 2
      have z3 : w2.cell? ⟨w.heap.size, 3, none⟩ = some (.slice none 0 0) := cell_at m2 3
      have f3 : w2.frozen? ⟨w.heap.size, 3, none⟩ = false := frozen_at m2 3
      have z4 : w2.cell? ⟨w.heap.size, 4, none⟩ = some (.slice none 0 0) := cell_at m2 4
      have f4 : w2.frozen? ⟨w.heap.size, 4, none⟩ = false := frozen_at m2 4
      have z5 : w2.cell? ⟨w.heap.size, 5, none⟩ = some (.int .i64 0) := cell_at m2 5
      have f5 : w2.frozen? ⟨w.heap.size, 5, none⟩ = false := frozen_at m2 5
      clear m1 N1 L2 m2
      go_wp2_with fail
      refine (HB.out _).mono ?_
      rintro e w3 ⟨rfl, hw3⟩
      have hw4 := hw3.symm
      clear hw3
      subst hw4
      go_wp2
      refine bodyPost_ret (v := .tuple #[.agg #[.slice none 0 0, .slice none 0 0, .slice none 0 0, .slice none 0 0, .slice none 0 0, .int .i64 0], .bool false]) (by simp [results, Tryd.results40, go_sem, z0, z1, z2, z3, z4, z5]) rfl ?_
      exact ⟨rfl, put6_below N2 (Nat.le_refl _) _ _ _ _ _ _⟩

end Of
end Go.Proofs.YtaplbjoghkipdaaDoor

/- OfficeStart of the model, told with where its trains lie. -/
namespace Go.Proofs.YtaplbjoghkipdaaDoor
namespace Of
open Go.ChangeShapes Go.WideShapes Go.ChangeAt Go.RowKit Go.Joins
open Pk (new_below join_below cell_at heap_new frozen_at lt_of kept heap_old info_of Room)
set_option linter.unusedSimpArgs false
set_option linter.unusedVariables false
open Tn (Tr Stops Trains Nums scells)
open Tf (Ed Edges)
open Se (inB in_is in_not)


theorem Lw.wide {w : World} {lo lo' : Nat} {a : Option Addr} {ts : List Tr} (h : Lw w lo a ts) (hl : lo' ≤ lo) : Lw w lo' a ts := by
  rcases h with h | ⟨g, h0, h1, h2, h3⟩
  · exact Or.inl h
  · refine Or.inr ⟨g, h0, Nat.le_trans hl h1, h2, fun i hi => ?_⟩
    obtain ⟨q, gi, ci, k1, k2⟩ := h3 i hi
    exact ⟨q, gi, ci, Nat.le_trans hl k1, k2⟩

set_option maxRecDepth 100000 in
set_option maxHeartbeats 4000000 in
theorem specStart_lw (b o d u : Nat) (ts : List Tr) (es : List Ed) (cap cap2 : Nat) (td : Int) (w : World) (hm : es.length ≤ 1048576) (hd : d < w.heap.size) (I : Trains w (some ⟨b, o, none⟩) ts) (J : Edges w (some ⟨d, u, none⟩) es) (hB : startB ts es td = true) :
    Calls Tryd.prog 40 #[.slice (some ⟨b, o, none⟩) ts.length cap, .slice (some ⟨d, u, none⟩) es.length cap2, .int .i64 td] w fun e w' => ∃ a2 c2 a3 c3, e = .returned (.tuple #[.agg #[.slice a2 ts.length c2, .slice a3 es.length c3, .slice none 0 0, .slice none 0 0, .slice none 0 0, .int .i64 td], .bool true]) ∧ Lw w' w.heap.size a2 ts ∧ Below w.heap.size w w' := by
  unfold startB at hB
  simp only [Bool.and_eq_true] at hB
  obtain ⟨b1, b2, b3⟩ := hB
  obtain ⟨q1, q2⟩ := lines_len b1
  obtain ⟨i0, hi, hz0, hz1, hz2⟩ := info_of Tf.info_edge
  have N := new_below w (.cells #[.slice none 0 0, .slice none 0 0, .slice none 0 0, .slice none 0 0, .slice none 0 0, .int .i64 0] 60)
  have m0 := heap_new w (.cells #[.slice none 0 0, .slice none 0 0, .slice none 0 0, .slice none 0 0, .slice none 0 0, .int .i64 0] 60)
  have HL : Hid (∀ _ : Unit, _) := fun _ => Tn.specLines_val (some ⟨b, o, none⟩) ts cap _ (by unfold maxLen; omega) (fun i h => by have := q2 i h; unfold maxLen; omega) (I.on N)
  have HT : Hid (∀ wx, Below w.heap.size w wx → _) := fun wx (L : Below w.heap.size w wx) => Tf.specTariff_val (some ⟨d, u, none⟩) es cap2 wx (by unfold maxLen; omega) (J.on L)
  have HB : Hid (∀ wx, _) := fun wx => Se.ins_yes td 0 90000 wx b3
  have HO : Hid (∀ wx, Below w.heap.size w wx → _) := fun wx (L : Below w.heap.size w wx) => copyS_val (some ⟨b, o, none⟩) ts cap wx (by omega) (fun i h => by have := q2 i h; omega) (I.on L)
  rw [b1] at HL
  rw [b2] at HT
  clear b1 b2 b3 q1 q2 I
  go_enter Tryd.func40, Tryd.ntmps40
  go_wp2_with fail
  refine (HL.out ()).mono ?_
  rintro e w1 ⟨rfl, L1⟩
  have m1 := kept L1 (lt_of m0) m0
  have N1 := join_below N L1
  clear m0 N L1
  go_wp2_with fail
  refine (HT.out _ N1).mono ?_
  rintro e w2 ⟨rfl, L2⟩
  have m2 := kept L2 (lt_of m1) m1
  have N2 := join_below N1 L2
  clear m1 N1 L2
  go_wp2_with fail
  refine (HB.out _).mono ?_
  rintro e w3 ⟨rfl, hw3⟩
  have hw4 := hw3.symm
  clear hw3
  subst hw4
  go_wp2_with fail
  refine (HO.out _ N2).mono ?_
  rintro e w4 ⟨a2, c2, rfl, S4, L4⟩
  have m4 := kept L4 (lt_of m2) m2
  have N4 := join_below N2 L4
  have hR : w.heap.size < w2.heap.size := lt_of m2
  clear m2 N2
  have N5 := new_below w4 (.cells #[] 95)
  have O5 := nil_row w4 95 3
  have J5 := J.on (join_below N4 N5)
  have H5 := edges_cells J5
  have m5 := kept N5 (lt_of m4) m4
  have B5 := join_below N4 N5
  have hz5 : w4.heap.size ≤ (w4.alloc (.cells #[] 95)).heap.size := N5.size
  have h24 : w2.heap.size ≤ w4.heap.size := L4.size
  clear m4 L4 HO HB HT HL N4
  go_wp2_with (at_builtin; refine wpList_append_own_at _ rfl _ _ 55 rfl w4.heap.size 95 i0 (Tf.lgV ⟨0, 0, 0⟩) 3 24 Tryd.underlying55 hi hz0 hz1 hz2 rfl (by decide) _ _ _ rfl O5 ⟨d, u, none⟩ es.length cap2 (snap (w4.alloc (.cells #[] 95)) d u (es.length * 3)) rfl ?c0 ?c1 ?c2 ?c3 ?c4 ?c5 ?_)
  case c0 => rw [snap_len]
  case c1 => exact snap_get H5
  case c2 => exact snap_one H5
  case c3 => unfold maxLen; omega
  case c4 => omega
  case c5 => exact hz5
  intro v' w6 O6 G6 _ _
  have L6 : Below w4.heap.size (w4.alloc (.cells #[] 95)) w6 := (Below.refl _ _).grown G6 hz5 (fun j hj => (O5.lt j hj).1)
  try rw [Nat.zero_add, List.nil_append] at O6
  obtain ⟨a3, c3, rfl, -⟩ := Pk.own_form O6
  have m6 := kept L6 (by have := lt_of m5; omega) m5
  have HE : Hid (Et w6 w4.heap.size a3 es) := by
    refine et_mk J5 ?_
    by_cases h0 : es.length = 0
    · exact Or.inl h0
    · obtain ⟨g, c, hv, h1, h2, h3, h4⟩ := own_g O6 (by omega)
      simp only [Value.slice.injEq] at hv
      refine Or.inr ⟨g, hv.1, h1, h2, fun j hj => ?_, h4⟩
      obtain ⟨z, hz, -⟩ := H5 j hj
      rw [hz]
      exact h3 j z (by rw [snap_at H5 j hj, hz])
  have K6 : Kp w2.heap.size w4 w6 := ⟨Nat.le_trans hz5 G6.size, fun p _ hq => by rw [L6.cell hq, N5.cell hq]⟩
  have S6 := S4.kp K6
  have B6 : Below w.heap.size w w6 := B5.grown G6 B5.size (fun j hj => by have := (O5.lt j hj).1; omega)
  have z0 : w6.cell? ⟨w.heap.size, 0, none⟩ = some (.slice none 0 0) := cell_at m6 0
  have f0 : w6.frozen? ⟨w.heap.size, 0, none⟩ = false := frozen_at m6 0
  have z1 : w6.cell? ⟨w.heap.size, 1, none⟩ = some (.slice none 0 0) := cell_at m6 1
  have f1 : w6.frozen? ⟨w.heap.size, 1, none⟩ = false := frozen_at m6 1
  have z2 : w6.cell? ⟨w.heap.size, 2, none⟩ = some (.slice none 0 0) := cell_at m6 2
  have f2 : w6.frozen? ⟨w.heap.size, 2, none⟩ = false := frozen_at m6 2
  have z3 : w6.cell? ⟨w.heap.size, 3, none⟩ = some (.slice none 0 0) := cell_at m6 3
  have f3 : w6.frozen? ⟨w.heap.size, 3, none⟩ = false := frozen_at m6 3
  have z4 : w6.cell? ⟨w.heap.size, 4, none⟩ = some (.slice none 0 0) := cell_at m6 4
  have f4 : w6.frozen? ⟨w.heap.size, 4, none⟩ = false := frozen_at m6 4
  have z5 : w6.cell? ⟨w.heap.size, 5, none⟩ = some (.int .i64 0) := cell_at m6 5
  have f5 : w6.frozen? ⟨w.heap.size, 5, none⟩ = false := frozen_at m6 5
  clear O5 O6 G6 L6 K6 S4 N5 m5 m6 J5 H5 hz5 B5 J
  go_wp2
  refine bodyPost_ret (v := .tuple #[.agg #[.slice a2 ts.length c2, .slice a3 es.length c3, .slice none 0 0, .slice none 0 0, .slice none 0 0, .int .i64 td], .bool true]) (by simp [results, Tryd.results40, go_sem, z0, z1, z2, z3, z4, z5]) rfl ?_
  exact ⟨a2, c2, a3, c3, rfl, (S6.kp (put6_kp hR _ _ _ _ _ _)).wide (Nat.le_of_lt hR), put6_below B6 (Nat.le_refl _) _ _ _ _ _ _⟩

theorem specStart_lines (b o d u : Nat) (ts : List Tr) (es : List Ed) (cap cap2 : Nat) (td : Int) (w : World) (hn : ts.length ≤ 1048576) (hs : ∀ i (h : i < ts.length), ts[i].l.length ≤ 1048576) (hm : es.length ≤ 1048576) (hd : d < w.heap.size) (I : Trains w (some ⟨b, o, none⟩) ts) (J : Edges w (some ⟨d, u, none⟩) es) :
    Calls Tryd.prog 40 #[.slice (some ⟨b, o, none⟩) ts.length cap, .slice (some ⟨d, u, none⟩) es.length cap2, .int .i64 td] w fun e w' => ∃ (ls : List Tr) (a2 a3 : Option Addr) (c2 n3 c3 : Nat) (t9 : Int), e = .returned (.tuple #[.agg #[.slice a2 ls.length c2, .slice a3 n3 c3, .slice none 0 0, .slice none 0 0, .slice none 0 0, .int .i64 t9], .bool (startB ts es td)]) ∧ (t9 = td ∨ t9 = 0) ∧ (ls = [] ∨ (ls.length ≤ 40 ∧ (∀ i (hi : i < ls.length), 2 ≤ ls[i].l.length ∧ ls[i].l.length ≤ 20) ∧ Lw w' w.heap.size a2 ls)) ∧ Below w.heap.size w w' := by
  cases hB : startB ts es td
  · refine (specStart_no b o d u ts es cap cap2 td w (by unfold maxLen; omega) (fun i h => by have := hs i h; unfold maxLen; omega) (by unfold maxLen; omega) I J hB).mono ?_
    rintro e w' ⟨rfl, L⟩
    exact ⟨[], none, none, 0, 0, 0, 0, rfl, Or.inr rfl, Or.inl rfl, L⟩
  · refine (specStart_lw b o d u ts es cap cap2 td w hm hd I J hB).mono ?_
    rintro e w' ⟨a2, c2, a3, c3, rfl, S, L⟩
    have h := hB
    unfold startB at h
    simp only [Bool.and_eq_true] at h
    obtain ⟨q1, q2⟩ := lines_len h.1
    exact ⟨ts, a2, a3, c2, es.length, c3, td, rfl, Or.inl rfl, Or.inr ⟨q1, q2, S⟩, L⟩

end Of
end Go.Proofs.YtaplbjoghkipdaaDoor

/- The draw of an office that begins. -/
namespace Go.Proofs.YtaplbjoghkipdaaDoor
namespace Rd
open Go.ChangeShapes Go.WideShapes Go.ChangeAt Go.RowKit
open Pk (new_below join_below cell_at heap_new frozen_at lt_of kept heap_old info_of own_form)
open Cur (Is Moved below_any once_any pickInt_any Kb)
open Tn (Tr St Trains Stops Nums lines_any lines_trains)
set_option linter.unusedSimpArgs false
set_option linter.unusedVariables false

theorem trc_lw {w : World} {lo c : Nat} {a : Option Addr} {ts : List Tr} (h : Of.Lw w lo a ts) (h0 : ts ≠ []) (hs : ∀ i (hi : i < ts.length), 2 ≤ ts[i].l.length ∧ ts[i].l.length ≤ 20) (hc : c < lo) : TrC w c a ts := by
  rcases h with h | ⟨g, rfl, h1, h2, h3⟩
  · exact absurd (List.eq_nil_of_length_eq_zero h) h0
  · refine ⟨g, 0, rfl, by omega, h2, fun i hi => ?_⟩
    obtain ⟨q, gi, ci, k1, k2, k3⟩ := h3 i hi
    rw [Nat.zero_add]
    refine ⟨q, gi, 0, ci, by omega, ?_, k2, k3⟩
    obtain ⟨b', o', e, hb, -⟩ := k3.at 0 (by have := hs i hi; omega)
    simp only [Option.some.injEq, Addr.mk.injEq, and_true] at e
    omega

set_option maxRecDepth 100000 in
set_option maxHeartbeats 8000000 in
theorem start9_any {W0 : World} {a : Option Addr} {n cap c : Nat} {w : World} (C : Is W0 a n cap c w) :
    Calls Tryd.prog 27 #[.pointer (some ⟨c, 0, none⟩)] w fun e w' => (∃ (ls : List Tr) (a2 a3 : Option Addr) (c2 n3 c3 : Nat) (t9 : Int), e = .returned (.agg #[.slice a2 ls.length c2, .slice a3 n3 c3, .slice none 0 0, .slice none 0 0, .slice none 0 0, .int .i64 t9]) ∧ 0 ≤ t9 ∧ t9 ≤ 5 ∧ (ls = [] ∨ (ls.length ≤ 40 ∧ (∀ i (hi : i < ls.length), 2 ≤ ls[i].l.length ∧ ls[i].l.length ≤ 20) ∧ TrC w' c a2 ls))) ∧ Is W0 a n cap c w' ∧ Kb c w w' := by
  have hcw := C.lt
  have hW0 : W0.heap.size ≤ w.heap.size := C.below.size
  have C0 := C.alloc (.cells #[.slice none 0 0, .slice none 0 0, .slice none 0 0, .slice none 0 0, .slice none 0 0, .int .i64 0] 60)
  have K0 : Kb c w (w.alloc (.cells #[.slice none 0 0, .slice none 0 0, .slice none 0 0, .slice none 0 0, .slice none 0 0, .int .i64 0] 60)) := (Kb.refl c w).alloc _
  have m0 := heap_new w (.cells #[.slice none 0 0, .slice none 0 0, .slice none 0 0, .slice none 0 0, .slice none 0 0, .int .i64 0] 60)
  go_enter Tryd.func27, Tryd.ntmps27
  go_wp2_with fail
  refine (lines_any C0).mono ?_
  generalize w.alloc (.cells #[.slice none 0 0, .slice none 0 0, .slice none 0 0, .slice none 0 0, .slice none 0 0, .int .i64 0] 60) = v0 at *
  rintro e w1 ⟨⟨xs, va, vc, rfl, OL, RT9, hx1, hx4⟩, C1, KL⟩
  have K1 := K0.trans KL
  have hRc : w.heap.size ≠ c := by omega
  have m1 := KL.at hRc m0
  have hv0 : w.heap.size < v0.heap.size := lt_of m0
  have hsz1 : v0.heap.size ≤ w1.heap.size := KL.size
  obtain ⟨g, c', hvg, hgb, hgl⟩ := OL.form (by omega)
  simp only [Value.slice.injEq] at hvg
  obtain ⟨rfl, -, rfl⟩ := hvg
  have IT := lines_trains OL RT9
  have hcv : c < v0.heap.size := by omega
  clear C0 K0 KL m0 C
  go_wp2_with fail
  refine (Tf.tariff9_any C1).mono ?_
  rintro e w2 ⟨⟨es, ea, ec, rfl, hel, g2, o2, rfl, hg2, hg2l, IE⟩, C2, KT⟩
  have K2 := K1.trans KT
  have m2 := KT.at hRc m1
  have hne : (Value.slice (some ⟨g, 0, none⟩) xs.length vc).ownBlock ≠ some c := fun h => by
    have h9 : some g = some c := h
    simp only [Option.some.injEq] at h9
    omega
  have OL2 := Tn.own_kb OL KT hne
  have RT2 : Tn.RowsT w2 v0.heap.size xs := fun x hx => ⟨Tn.own_kb (RT9 x hx).1 KT (fun h => by have := ((RT9 x hx).1.lt c h).1; omega), (RT9 x hx).2⟩
  have IT2 := lines_trains OL2 RT2
  have hb5 : ∀ t ∈ xs.map (fun x => x.1), t.l.length ≤ 5 := fun t ht => by
    obtain ⟨x, hx, rfl⟩ := List.mem_map.1 ht
    exact (RT2 x hx).2.2
  have hxl : (xs.map fun x => x.1).length = xs.length := List.length_map ..
  generalize (xs.map fun x => x.1) = tl at *
  have hb6 : ∀ i (h : i < tl.length), tl[i].l.length ≤ 1048576 := fun i h => Nat.le_trans (hb5 _ (List.getElem_mem h)) (by omega)
  have hb7 : tl.length ≤ 1048576 := by rw [hxl]; omega
  have hel2 : es.length ≤ 1048576 := Nat.le_trans hel (by omega)
  have HST0 := Of.specStart_lines g 0 g2 o2 tl es vc ec 5 w2 hb7 hb6 hel2 hg2l IT2 IE
  rw [hxl] at HST0
  have HST : Hid (∀ _ : Unit, _) := fun _ => HST0
  clear HST0 hb5 hb6 hb7 hel2
  clear C1 K1 KT m1 OL RT9 IT IT2 IE OL2 RT2 hne hxl hel
  go_wp2_with fail
  refine (HST.out ()).mono ?_
  rintro e w3 ⟨ls, a2, a3, c2, n3, c3, t9, rfl, ht9, HLS, L3⟩
  have C3 := C2.kept L3
  have K3 := K2.trans (Kb.of c L3)
  have m3 := kept L3 (lt_of m2) m2
  have hs2 : w.heap.size ≤ w2.heap.size := K2.size
  have hc2 := C2.lt
  have HTR : Hid (ls = [] ∨ (ls.length ≤ 40 ∧ (∀ i (hi : i < ls.length), 2 ≤ ls[i].l.length ∧ ls[i].l.length ≤ 20) ∧ Of.Lw w3 w2.heap.size a2 ls)) := HLS
  have ht0 : 0 ≤ t9 ∧ t9 ≤ 5 := by omega
  generalize Of.startB tl es 5 = sb at *
  have hR2 : w.heap.size < w2.heap.size := lt_of m2
  clear HST HLS L3 C2 K2 m2
  have N4 := new_below w3 (.cells #[.slice a2 ls.length c2, .slice a3 n3 c3, .slice none 0 0, .slice none 0 0, .slice none 0 0, .int .i64 t9] 60)
  have x4 := heap_new w3 (.cells #[.slice a2 ls.length c2, .slice a3 n3 c3, .slice none 0 0, .slice none 0 0, .slice none 0 0, .int .i64 t9] 60)
  have m4 := kept N4 (lt_of m3) m3
  have C4 := C3.alloc (.cells #[.slice a2 ls.length c2, .slice a3 n3 c3, .slice none 0 0, .slice none 0 0, .slice none 0 0, .int .i64 t9] 60)
  have K4 := K3.alloc (.cells #[.slice a2 ls.length c2, .slice a3 n3 c3, .slice none 0 0, .slice none 0 0, .slice none 0 0, .int .i64 t9] 60)
  have hRl : w.heap.size < w2.heap.size := hR2
  have HT4 : Hid (∀ W, Of.Kp w2.heap.size (w3.alloc (.cells #[.slice a2 ls.length c2, .slice a3 n3 c3, .slice none 0 0, .slice none 0 0, .slice none 0 0, .int .i64 t9] 60)) W → ls = [] ∨ (ls.length ≤ 40 ∧ (∀ i (hi : i < ls.length), 2 ≤ ls[i].l.length ∧ ls[i].l.length ≤ 20) ∧ TrC W c a2 ls)) := fun W k => by
    rcases HTR.out with h | ⟨h1, h2, h3⟩
    · exact Or.inl h
    · by_cases h0 : ls = []
      · exact Or.inl h0
      · exact Or.inr ⟨h1, h2, trc_lw (h3.kp ((Of.Kp.of N4).trans k)) h0 h2 hc2⟩
  have hR3 : w.heap.size < w3.heap.size := lt_of m3
  clear HTR m3 C3 K3 N4
  go_upto_region 2 with fail
  generalize w3.alloc (.cells #[.slice a2 ls.length c2, .slice a3 n3 c3, .slice none 0 0, .slice none 0 0, .slice none 0 0, .int .i64 t9] 60) = w4 at *
  generalize w3.heap.size = BX at *
  have x_0 : w4.cell? ⟨BX, 0, none⟩ = some (.slice a2 ls.length c2) := cell_at x4 0
  have z_0 : w4.cell? ⟨w.heap.size, 0, none⟩ = some (.slice none 0 0) := cell_at m4 0
  have f_0 : w4.frozen? ⟨w.heap.size, 0, none⟩ = false := frozen_at m4 0
  have x_1 : w4.cell? ⟨BX, 1, none⟩ = some (.slice a3 n3 c3) := cell_at x4 1
  have z_1 : w4.cell? ⟨w.heap.size, 1, none⟩ = some (.slice none 0 0) := cell_at m4 1
  have f_1 : w4.frozen? ⟨w.heap.size, 1, none⟩ = false := frozen_at m4 1
  have x_2 : w4.cell? ⟨BX, 2, none⟩ = some (.slice none 0 0) := cell_at x4 2
  have z_2 : w4.cell? ⟨w.heap.size, 2, none⟩ = some (.slice none 0 0) := cell_at m4 2
  have f_2 : w4.frozen? ⟨w.heap.size, 2, none⟩ = false := frozen_at m4 2
  have x_3 : w4.cell? ⟨BX, 3, none⟩ = some (.slice none 0 0) := cell_at x4 3
  have z_3 : w4.cell? ⟨w.heap.size, 3, none⟩ = some (.slice none 0 0) := cell_at m4 3
  have f_3 : w4.frozen? ⟨w.heap.size, 3, none⟩ = false := frozen_at m4 3
  have x_4 : w4.cell? ⟨BX, 4, none⟩ = some (.slice none 0 0) := cell_at x4 4
  have z_4 : w4.cell? ⟨w.heap.size, 4, none⟩ = some (.slice none 0 0) := cell_at m4 4
  have f_4 : w4.frozen? ⟨w.heap.size, 4, none⟩ = false := frozen_at m4 4
  have x_5 : w4.cell? ⟨BX, 5, none⟩ = some (.int .i64 t9) := cell_at x4 5
  have z_5 : w4.cell? ⟨w.heap.size, 5, none⟩ = some (.int .i64 0) := cell_at m4 5
  have f_5 : w4.frozen? ⟨w.heap.size, 5, none⟩ = false := frozen_at m4 5
  have CZ := (((((C4.set w.heap.size 0 (.slice a2 ls.length c2) hRc hW0).set w.heap.size 1 (.slice a3 n3 c3) hRc hW0).set w.heap.size 2 (.slice none 0 0) hRc hW0).set w.heap.size 3 (.slice none 0 0) hRc hW0).set w.heap.size 4 (.slice none 0 0) hRc hW0).set w.heap.size 5 (.int .i64 t9) hRc hW0
  have KZ := (((((K4.set w.heap.size 0 (.slice a2 ls.length c2) (Nat.le_refl _)).set w.heap.size 1 (.slice a3 n3 c3) (Nat.le_refl _)).set w.heap.size 2 (.slice none 0 0) (Nat.le_refl _)).set w.heap.size 3 (.slice none 0 0) (Nat.le_refl _)).set w.heap.size 4 (.slice none 0 0) (Nat.le_refl _)).set w.heap.size 5 (.int .i64 t9) (Nat.le_refl _)
  have TZ := HT4.out _ (Of.put6_kp (w := w4) hRl (.slice a2 ls.length c2) (.slice a3 n3 c3) (.slice none 0 0) (.slice none 0 0) (.slice none 0 0) (.int .i64 t9))
  have HZ : Hid (_ ∧ _ ∧ _) := ⟨TZ, CZ, KZ⟩
  clear TZ CZ KZ HT4 C4 K4 m4 x4
  go_wp2
  refine bodyPost_ret (v := .agg #[.slice a2 ls.length c2, .slice a3 n3 c3, .slice none 0 0, .slice none 0 0, .slice none 0 0, .int .i64 t9]) (by simp [results, Tryd.results27, go_sem, z_0, z_1, z_2, z_3, z_4, z_5]) rfl ?_
  exact ⟨⟨ls, a2, a3, c2, n3, c3, t9, rfl, ht0.1, ht0.2, HZ.out.1⟩, HZ.out.2.1, HZ.out.2.2⟩

end Rd
end Go.Proofs.YtaplbjoghkipdaaDoor

/- Contracts of TicketOk, of the program and of its model. -/
namespace Go.Proofs.YtaplbjoghkipdaaDoor
namespace Tk
open Go.ChangeShapes Go.WideShapes Go.ChangeAt Go.RowKit
open Pk (new_below join_below cell_at heap_new frozen_at lt_of kept)
set_option linter.unusedSimpArgs false
set_option linter.unusedVariables false

/-- A number lies between two. -/
def inB (x a b : Int) : Bool := decide (a ≤ x ∧ x ≤ b)

theorem inB_yes {x a b : Int} (h : inB x a b = true) : a ≤ x ∧ x ≤ b := of_decide_eq_true h

/-- A ticket's numbers but for its name and its legs. -/
structure Hd where
  id : Int
  cl : Int
  pr : Int
  fi : Int
  la : Int

def headB (t : Hd) : Bool := inB t.id 1 999999999 && inB t.cl 1 2 && inB t.pr 0 100000000 && inB t.fi 0 99999 && inB t.la t.fi 99999

/-- The bytes of a name from a place on are right. -/
def nameFrom (s : ByteArray) (i : Nat) : Bool := (s.data.toList.drop i).all fun b => decide (32 ≤ b.toNat ∧ b.toNat ≤ 126)

def nameB (s : ByteArray) : Bool := nameFrom s 0 && decide (s.size ≤ 40)

def seatB (l : Lg) : Bool := (decide (l.co = 0) && decide (l.se = 0)) || (inB l.co 1 99 && inB l.se 1 99)

def legB (l : Lg) (fi la : Int) : Bool := inB l.tr 1 9999 && inB l.dy fi la && inB l.fr 1 9999 && inB l.to 1 9999 && !decide (l.fr = l.to) && seatB l

def legsFrom (ls : List Lg) (fi la : Int) (i : Nat) : Bool := (ls.drop i).all fun l => legB l fi la

def okB (t : Hd) (s : ByteArray) (ls : List Lg) : Bool := headB t && nameB s && inB ls.length 1 6 && legsFrom ls t.fi t.la 0

theorem nameFrom_step (s : ByteArray) (i : Nat) (h : i < s.size) : nameFrom s i = (decide (32 ≤ s[i].toNat ∧ s[i].toNat ≤ 126) && nameFrom s (i + 1)) := by
  unfold nameFrom
  have h1 : i < s.data.toList.length := by rw [Array.length_toList]; exact h
  rw [List.drop_eq_getElem_cons h1, List.all_cons]
  rfl

theorem nameFrom_end (s : ByteArray) (i : Nat) (h : ¬ i < s.size) : nameFrom s i = true := by
  unfold nameFrom
  rw [List.drop_eq_nil_of_le (by rw [Array.length_toList]; exact Nat.le_of_not_lt h)]
  rfl

theorem legsFrom_step (ls : List Lg) (fi la : Int) (i : Nat) (h : i < ls.length) : legsFrom ls fi la i = (legB ls[i] fi la && legsFrom ls fi la (i + 1)) := by
  unfold legsFrom
  rw [List.drop_eq_getElem_cons h, List.all_cons]

theorem legsFrom_end (ls : List Lg) (fi la : Int) (i : Nat) (h : ¬ i < ls.length) : legsFrom ls fi la i = true := by
  unfold legsFrom
  rw [List.drop_eq_nil_of_le (Nat.le_of_not_lt h)]
  rfl

theorem between_val (x a b : Int) (w : World) :
    Calls Tryd.prog 16 #[.int .i64 x, .int .i64 a, .int .i64 b] w fun e w' => e = .returned (.bool (inB x a b)) ∧ w' = w := by
  by_cases h1 : a ≤ x <;> by_cases h2 : x ≤ b
  all_goals
    go_enter Tryd.func16, Tryd.ntmps16
    go_wp2
    go_ret
    exact ⟨by simp [inB, h1, h2], rfl⟩

theorem in_val (x a b : Int) (w : World) :
    Calls Tryd.prog 32 #[.int .i64 x, .int .i64 a, .int .i64 b] w fun e w' => e = .returned (.bool (inB x a b)) ∧ w' = w := by
  by_cases h1 : a ≤ x <;> by_cases h2 : x ≤ b
  all_goals
    go_enter Tryd.func32, Tryd.ntmps32
    go_wp2
    go_ret
    exact ⟨by simp [inB, h1, h2], rfl⟩

theorem nameOk_val (s : ByteArray) (w : World) (hs : s.size ≤ maxLen) :
    Calls Tryd.prog 14 #[.string s] w fun e w' => e = .returned (.bool (nameB s)) ∧ w' = w := by
  unfold maxLen at hs
  by_cases h40 : s.size ≤ 40
  · have e40 : nameB s = nameFrom s 0 := by unfold nameB; rw [decide_eq_true h40, Bool.and_true]
    rw [e40]
    have hd : decide ((40 : Int) < (s.size : Int)) = false := decide_eq_false (by omega)
    clear e40
    go_enter Tryd.func14, Tryd.ntmps14
    go_wp2
    go_loop [9] (fun i => ∃ (k : Nat), k ≤ s.size ∧ i = .int .i64 k ∧ Hid (nameFrom s 0 = nameFrom s k)) (fun i => s.size - (intOf i).toNat)
    case atStart => exact ⟨0, by omega, rfl, rfl⟩
    case round =>
      obtain ⟨k, hk, rfl, H⟩ := hrel
      by_cases hks : k < s.size
      · have HS : Hid (_) := nameFrom_step s k hks
        have hb := s[k].toNat_lt
        by_cases h1 : (s[k].toNat : Int) < 32
        · have HE : Hid (nameFrom s 0 = false) := by show _ = _; rw [H.out, HS.out, decide_eq_false (by omega)]; rfl
          go_wp2
          go_ret
          exact ⟨by rw [HE.out] <;> rfl, rfl⟩
        · by_cases h2 : (126 : Int) < (s[k].toNat : Int)
          · have HE : Hid (nameFrom s 0 = false) := by show _ = _; rw [H.out, HS.out, decide_eq_false (by omega)]; rfl
            go_wp2
            go_ret
            exact ⟨by rw [HE.out] <;> rfl, rfl⟩
          · have HE : Hid (nameFrom s 0 = nameFrom s (k + 1)) := by show _ = _; rw [H.out, HS.out, decide_eq_true (by omega)]; rfl
            go_wp2
            go_round
            case rel => exact ⟨k + 1, by omega, by go_num, HE⟩
            case measure => simp [intOf]; omega
      · have HE : Hid (nameFrom s 0 = true) := by show _ = _; rw [H.out, nameFrom_end s k hks]
        go_wp2
        go_ret
        exact ⟨by rw [HE.out] <;> rfl, rfl⟩
  · have e40 : nameB s = false := by unfold nameB; rw [decide_eq_false h40, Bool.and_false]
    rw [e40]
    have hd : decide ((40 : Int) < (s.size : Int)) = true := decide_eq_true (by omega)
    clear e40 h40
    go_enter Tryd.func14, Tryd.ntmps14
    go_wp2
    go_ret
    exact ⟨rfl, rfl⟩

theorem nameIn (b : UInt8) : inB (b.toNat : Int) 32 126 = decide (32 ≤ b.toNat ∧ b.toNat ≤ 126) := by
  unfold inB
  by_cases h : 32 ≤ b.toNat ∧ b.toNat ≤ 126
  · rw [decide_eq_true h, decide_eq_true (by omega)]
  · rw [decide_eq_false h, decide_eq_false (by omega)]

theorem name_val (s : ByteArray) (w : World) (hs : s.size ≤ maxLen) :
    Calls Tryd.prog 19 #[.string s] w fun e w' => e = .returned (.bool (nameB s)) ∧ w' = w := by
  unfold maxLen at hs
  go_enter Tryd.func19, Tryd.ntmps19
  go_wp2
  go_loop [3] (fun i => ∃ (k : Nat), k ≤ s.size ∧ i = .int .i64 k ∧ Hid (nameFrom s 0 = nameFrom s k)) (fun i => s.size - (intOf i).toNat)
  case atStart => exact ⟨0, by omega, rfl, rfl⟩
  case round =>
    obtain ⟨k, hk, rfl, H⟩ := hrel
    by_cases hks : k < s.size
    · have HS : Hid (_) := nameFrom_step s k hks
      have hb := s[k].toNat_lt
      have HI : Hid (∀ w, _) := fun w => in_val (s[k].toNat : Int) 32 126 w
      rw [nameIn s[k]] at HI
      generalize decide (32 ≤ s[k].toNat ∧ s[k].toNat ≤ 126) = b at *
      go_wp2_with fail
      refine (HI.out _).mono ?_
      rintro e w1 ⟨rfl, rfl⟩
      cases b
      · have HE : Hid (nameB s = false) := by show _ = _; unfold nameB; rw [H.out, HS.out]; rfl
        go_wp2
        go_ret
        exact ⟨by rw [HE.out] <;> rfl, rfl⟩
      · have HE : Hid (nameFrom s 0 = nameFrom s (k + 1)) := by show _ = _; rw [H.out, HS.out]; rfl
        go_wp2
        go_round
        case rel => exact ⟨k + 1, by omega, by go_num, HE⟩
        case measure => simp [intOf]; omega
    · have HE : Hid (nameB s = decide ((s.size : Int) ≤ 40)) := by
        show _ = _
        unfold nameB
        rw [H.out, nameFrom_end s k hks, Bool.true_and]
        by_cases h : s.size ≤ 40
        · rw [decide_eq_true h, decide_eq_true (by omega)]
        · rw [decide_eq_false h, decide_eq_false (by omega)]
      go_wp2
      go_ret
      exact ⟨by rw [HE.out] <;> rfl, rfl⟩

/-- A ticket as a value. -/
abbrev tkV (t : Hd) (s : ByteArray) (a : Option Addr) (n cap : Nat) : Value := .agg #[.int .i64 t.id, .string s, .int .i64 t.cl, .int .i64 t.pr, .int .i64 t.fi, .int .i64 t.la, .slice a n cap]

abbrev tkB (t : Hd) (s : ByteArray) (a : Option Addr) (n cap : Nat) (T : TypeId) : Obj := .cells #[.int .i64 t.id, .string s, .int .i64 t.cl, .int .i64 t.pr, .int .i64 t.fi, .int .i64 t.la, .slice a n cap] T

theorem okB_no (t : Hd) (s : ByteArray) (ls : List Lg) (k : Nat) (h : legsFrom ls t.fi t.la 0 = legsFrom ls t.fi t.la k) (hk : legsFrom ls t.fi t.la k = false) : okB t s ls = false := by
  unfold okB
  rw [h, hk, Bool.and_false]

end Tk
end Go.Proofs.YtaplbjoghkipdaaDoor

/- Contracts of the laws' own helpers over tickets: their size, a copy, two of them held against each other; a ticket that came in. -/
namespace Go.Proofs.YtaplbjoghkipdaaDoor
namespace Tk
open Go.ChangeShapes Go.WideShapes Go.ChangeAt Go.RowKit Go.Joins
open Pk (new_below join_below cell_at heap_new frozen_at lt_of kept heap_old)
set_option linter.unusedSimpArgs false
set_option linter.unusedVariables false

theorem named {P : Program} {f : FuncId} {args : Array Value} {w : World} {post : Ending → World → Prop} (h : ∀ W, W = w → Calls P f args W post) : Calls P f args w post := h w rfl

theorem h_set {w : World} {c i : Nat} {cs : Array Value} {t : TypeId} {f : Nat × Nat} (h : w.heap[c]? = some (.cells cs t f)) (u : Value) : (w.setCell ⟨c, i, none⟩ u).heap[c]? = some (.cells (cs.setIfInBounds i u) t f) := by
  unfold World.setCell
  simp [Array.getElem?_modify, h]

theorem h_other {w : World} {c g i : Nat} {x : Obj} (h : w.heap[c]? = some x) (hne : c ≠ g) (u : Value) : (w.setCell ⟨g, i, none⟩ u).heap[c]? = some x := by
  rw [Below.heap_setCell w ⟨g, i, none⟩ u c hne]
  exact h

theorem three_blocks (w : World) (a b c : Obj) : (((w.alloc a).alloc b).alloc c).heap[w.heap.size]? = some a ∧ (((w.alloc a).alloc b).alloc c).heap[w.heap.size + 1]? = some b ∧ (((w.alloc a).alloc b).alloc c).heap[w.heap.size + 1 + 1]? = some c := by
  have e1 : (w.alloc a).heap.size = w.heap.size + 1 := Array.size_push ..
  have e2 : ((w.alloc a).alloc b).heap.size = w.heap.size + 1 + 1 := by rw [← e1]; exact Array.size_push ..
  refine ⟨heap_old (heap_old (heap_new w a) b) c, ?_, ?_⟩
  · rw [← e1]; exact heap_old (heap_new (w.alloc a) b) c
  · rw [← e2]; exact heap_new ((w.alloc a).alloc b) c

theorem cell_other {w : World} {b o : Nat} {p : Addr} {u : Value} (h : p.block ≠ b) : (w.setCell ⟨b, o, none⟩ u).cell? p = w.cell? p := World.cell?_of_block (Below.heap_setCell _ _ _ _ h)

end Tk
end Go.Proofs.YtaplbjoghkipdaaDoor

/- Words and numbers in lines: the program's and its model's. -/
namespace Go.Proofs.YtaplbjoghkipdaaDoor
namespace Tk
open Go.ChangeShapes Go.WideShapes Go.ChangeAt Go.RowKit
open Pk (new_below join_below cell_at heap_new frozen_at lt_of kept)
open Num (decS Tens)
set_option linter.unusedSimpArgs false
set_option linter.unusedVariables false

theorem decS_size (z : Int) (h0 : 0 ≤ z) (h1 : z ≤ 999999999) : (decS z).size ≤ 20 := by
  obtain ⟨n, rfl⟩ := Int.eq_ofNat_of_zero_le h0
  unfold decS Lib.itoa
  rw [if_neg (by omega)]
  exact Math.dec_len_le _ (by omega)

theorem ba_assoc (a b c : ByteArray) : a ++ b ++ c = a ++ (b ++ c) := ByteArray.append_assoc

theorem ba_size (a b : ByteArray) : (a ++ b).size = a.size + b.size := ByteArray.size_append

/-- Numbers, each behind a blank. -/
def ws (zs : List Int) : ByteArray := zs.foldl (fun o z => o ++ (⟨#[32]⟩ ++ decS z)) ⟨#[]⟩

/-- Every number is one of a ticket's. -/
def Nums (zs : List Int) : Prop := ∀ z ∈ zs, 0 ≤ z ∧ z ≤ 999999999

theorem ws_take (zs : List Int) (k : Nat) (h : k < zs.length) : ws (zs.take (k + 1)) = ws (zs.take k) ++ (⟨#[32]⟩ ++ decS zs[k]) := by
  unfold ws
  rw [List.take_add_one, List.getElem?_eq_getElem h, List.foldl_append]
  rfl

theorem ws_size (zs : List Int) (h : Nums zs) (k : Nat) (hk : k ≤ zs.length) : (ws (zs.take k)).size ≤ 21 * k := by
  induction k with
  | zero => simp [ws, ByteArray.size]
  | succ k ih =>
    have h1 := ih (by omega)
    have h2 := h zs[k] (List.getElem_mem (by omega))
    have h3 := decS_size zs[k] h2.1 h2.2
    have h4 : (⟨#[32]⟩ : ByteArray).size = 1 := rfl
    rw [ws_take zs k (by omega), ba_size, ba_size, h4]
    omega

/-- A row of numbers in memory. -/
def RowZ (w : World) (g : Nat) (zs : List Int) : Prop := g < w.heap.size ∧ ∀ i (h : i < zs.length), w.cell? ⟨g, i, none⟩ = some (.int .i64 zs[i])

theorem RowZ.on {w w1 : World} {g : Nat} {zs : List Int} (h : RowZ w g zs) (L : Below w.heap.size w w1) : RowZ w1 g zs :=
  ⟨Nat.lt_of_lt_of_le h.1 L.size, fun i hi => by rw [L.cell (p := ⟨g, i, none⟩) h.1]; exact h.2 i hi⟩

theorem RowZ.new (w : World) (zs : List Int) (t : TypeId) : RowZ (w.alloc (.cells (zs.map (Value.int .i64)).toArray t)) w.heap.size zs :=
  ⟨by simp, fun i hi => by rw [cell_at (heap_new w _) i]; simp [hi]⟩

/-- Every number is one that an int holds. -/
def Wide (zs : List Int) : Prop := ∀ z ∈ zs, -9223372036854775808 ≤ z ∧ z ≤ 9223372036854775807

theorem Nums.wide {zs : List Int} (h : Nums zs) : Wide zs := fun z hz => by have := h z hz; omega

theorem decS_wide (z : Int) (h0 : -9223372036854775808 ≤ z) (h1 : z ≤ 9223372036854775807) : (decS z).size ≤ 21 := by
  unfold decS Lib.itoa
  show (if z < 0 then 45 :: Lib.decDigits z.natAbs else Lib.decDigits z.toNat).toArray.size ≤ 21
  rw [List.size_toArray]
  split
  · have := Math.dec_len_le z.natAbs (by omega)
    rw [List.length_cons]
    omega
  · have := Math.dec_len_le z.toNat (by omega)
    omega

theorem ws_wide (zs : List Int) (h : Wide zs) (k : Nat) (hk : k ≤ zs.length) : (ws (zs.take k)).size ≤ 22 * k := by
  induction k with
  | zero => simp [ws, ByteArray.size]
  | succ k ih =>
    have h1 := ih (by omega)
    have h2 := h zs[k] (List.getElem_mem (by omega))
    have h3 := decS_wide zs[k] h2.1 h2.2
    have h4 : (⟨#[32]⟩ : ByteArray).size = 1 := rfl
    rw [ws_take zs k (by omega), ba_size, ba_size, h4]
    omega

theorem ws_wide_all (zs : List Int) (h : Wide zs) : (ws zs).size ≤ 22 * zs.length := by
  have := ws_wide zs h zs.length (Nat.le_refl _)
  rw [List.take_length] at this
  exact this

set_option maxHeartbeats 1000000 in
theorem words_wide (zs : List Int) (g cap : Nat) (w : World) (hl : zs.length ≤ 40) (hn : Wide zs) (R : RowZ w g zs) :
    Calls Tryd.prog 20 #[.slice (some ⟨g, 0, none⟩) zs.length cap] w fun e w' => e = .returned (.string (ws zs)) ∧ w' = w := by
  have HN : Hid (Wide zs) := hn
  generalize hm : zs.length = m at *
  have HM : Hid (zs.length = m) := hm
  clear hn hm
  go_enter Tryd.func20, Tryd.ntmps20
  go_wp2
  go_loop [3, 4] (fun o i => ∃ (k : Nat) (O : ByteArray), k ≤ m ∧ O.size ≤ 900 ∧ i = .int .i64 k ∧ o = .string O ∧ Hid (O = ws (zs.take k))) (fun _ i => m - (intOf i).toNat)
  case atStart => exact ⟨0, ⟨#[]⟩, by omega, by simp [ByteArray.size], rfl, rfl, rfl⟩
  case round =>
    obtain ⟨k, O, hk, hO, rfl, rfl, H⟩ := hrel
    by_cases hkm : k < m
    · have hkz : k < zs.length := by rw [HM.out]; exact hkm
      have hc := R.2 k hkz
      have hz := HN.out zs[k] (List.getElem_mem hkz)
      have HS : Hid (_) := ws_take zs k hkz
      have hsz := ws_wide zs HN.out (k + 1) (by omega)
      rw [HS.out, ← H.out] at hsz
      have hds := decS_wide zs[k] hz.1 hz.2
      have HD : Hid (∀ w, _) := fun w => Num.specDecText_any zs[k] w (by omega) (by omega)
      generalize decS zs[k] = d at *
      generalize zs[k] = z at *
      have hE : O ++ ⟨#[32]⟩ ++ d = O ++ (⟨#[32]⟩ ++ d) := ba_assoc _ _ _
      have HE : Hid (_) := hE
      have h2 : (O ++ (⟨#[32]⟩ ++ d) : ByteArray).size ≤ 900 := by omega
      have HZ : Hid (_) := h2
      clear hE hsz hkz h2
      have b1 : ¬ (O.size + (⟨#[32]⟩ : ByteArray).size > 9223372036854775807) := by have h4 : (⟨#[32]⟩ : ByteArray).size = 1 := rfl; omega
      have b2 : ¬ ((O ++ ⟨#[32]⟩ : ByteArray).size + d.size > 9223372036854775807) := by have h4 : (⟨#[32]⟩ : ByteArray).size = 1 := rfl; rw [ba_size]; omega
      go_wp2_with fail
      refine (HD.out _).mono ?_
      rintro e w1 ⟨rfl, rfl⟩
      go_wp2
      go_round
      case rel => exact ⟨k + 1, O ++ (⟨#[32]⟩ ++ d), by omega, HZ.out, by go_num, by rw [HE.out], by show _ = _; rw [HS.out, ← H.out]⟩
      case measure => simp [intOf]; omega
    · obtain rfl : k = m := by omega
      have HT : Hid (O = ws zs) := by
        have := H.out
        rw [← HM.out, List.take_length] at this
        exact this
      go_wp2
      go_ret
      exact ⟨by rw [← HT.out] <;> rfl, rfl⟩

end Tk
end Go.Proofs.YtaplbjoghkipdaaDoor

/- Contracts of PutTicket, of the program and of its model. -/
namespace Go.Proofs.YtaplbjoghkipdaaDoor
namespace Tk
open Go.ChangeShapes Go.WideShapes Go.ChangeAt Go.RowKit
open Pk (new_below join_below cell_at heap_new frozen_at lt_of kept)
open Num (decS Tens)
set_option linter.unusedSimpArgs false
set_option linter.unusedVariables false

theorem words_val (zs : List Int) (g cap : Nat) (w : World) (hl : zs.length ≤ 40) (hn : Nums zs) (R : RowZ w g zs) :
    Calls Tryd.prog 20 #[.slice (some ⟨g, 0, none⟩) zs.length cap] w fun e w' => e = .returned (.string (ws zs)) ∧ w' = w := words_wide zs g cap w hl hn.wide R

/-- The text of a head, of a leg, and of a ticket as far as some legs. -/
def headT (t : Hd) (s : ByteArray) : ByteArray := ⟨#[104, 101, 97, 100]⟩ ++ ws [t.id, t.cl, t.pr, t.fi, t.la] ++ ⟨#[10, 110, 97, 109, 101, 32]⟩ ++ s ++ ⟨#[10]⟩

def legT (l : Lg) : ByteArray := ⟨#[108, 101, 103]⟩ ++ ws [l.tr, l.dy, l.fr, l.to, l.co, l.se] ++ ⟨#[10]⟩

def putT (t : Hd) (s : ByteArray) (ls : List Lg) : Nat → ByteArray
  | 0 => headT t s
  | k + 1 => putT t s ls k ++ legT (ls.getD k ⟨0, 0, 0, 0, 0, 0⟩)

/-- What PutTicket answers. -/
def putS (t : Hd) (s : ByteArray) (ls : List Lg) : ByteArray := if okB t s ls = true then putT t s ls ls.length else ⟨#[]⟩

theorem headB_nums (t : Hd) (h : headB t = true) : Nums [t.id, t.cl, t.pr, t.fi, t.la] := by
  unfold headB at h
  simp only [Bool.and_eq_true] at h
  obtain ⟨⟨⟨⟨h1, h2⟩, h3⟩, h4⟩, h5⟩ := h
  have h1 := inB_yes h1
  have h2 := inB_yes h2
  have h3 := inB_yes h3
  have h4 := inB_yes h4
  have h5 := inB_yes h5
  intro z hz
  simp at hz
  rcases hz with rfl | rfl | rfl | rfl | rfl <;> omega

theorem seatB_nums (l : Lg) (h : seatB l = true) : (0 ≤ l.co ∧ l.co ≤ 99) ∧ (0 ≤ l.se ∧ l.se ≤ 99) := by
  unfold seatB at h
  simp only [Bool.or_eq_true, Bool.and_eq_true, decide_eq_true_eq] at h
  rcases h with ⟨h1, h2⟩ | ⟨h1, h2⟩
  · omega
  · have h1 := inB_yes h1
    have h2 := inB_yes h2
    omega

theorem legB_nums (l : Lg) (fi la : Int) (h : legB l fi la = true) (h0 : 0 ≤ fi) (h1 : la ≤ 99999) : Nums [l.tr, l.dy, l.fr, l.to, l.co, l.se] := by
  unfold legB at h
  simp only [Bool.and_eq_true] at h
  obtain ⟨⟨⟨⟨⟨a1, a2⟩, a3⟩, a4⟩, -⟩, a6⟩ := h
  have a1 := inB_yes a1
  have a2 := inB_yes a2
  have a3 := inB_yes a3
  have a4 := inB_yes a4
  have a6 := seatB_nums l a6
  intro z hz
  simp at hz
  rcases hz with rfl | rfl | rfl | rfl | rfl | rfl <;> omega

theorem okB_parts (t : Hd) (s : ByteArray) (ls : List Lg) (h : okB t s ls = true) : Nums [t.id, t.cl, t.pr, t.fi, t.la] ∧ s.size ≤ 40 ∧ (1 ≤ ls.length ∧ ls.length ≤ 6) ∧ ∀ l ∈ ls, Nums [l.tr, l.dy, l.fr, l.to, l.co, l.se] := by
  unfold okB at h
  simp only [Bool.and_eq_true] at h
  obtain ⟨⟨⟨h1, h2⟩, h3⟩, h4⟩ := h
  have hn := headB_nums t h1
  have h3 := inB_yes h3
  refine ⟨hn, ?_, by omega, ?_⟩
  · unfold nameB at h2
    simp only [Bool.and_eq_true, decide_eq_true_eq] at h2
    exact h2.2
  · intro l hl
    unfold legsFrom at h4
    rw [List.drop_zero, List.all_eq_true] at h4
    have h5 : 0 ≤ t.fi ∧ t.la ≤ 99999 := by
      unfold headB at h1
      simp only [Bool.and_eq_true] at h1
      have b4 := inB_yes h1.1.2
      have b5 := inB_yes h1.2
      omega
    exact legB_nums l t.fi t.la (h4 l hl) h5.1 h5.2

theorem legT_size (l : Lg) (h : Nums [l.tr, l.dy, l.fr, l.to, l.co, l.se]) : (legT l).size ≤ 130 := by
  have h1 := ws_size _ h 6 (Nat.le_refl _)
  rw [show ([l.tr, l.dy, l.fr, l.to, l.co, l.se] : List Int).take 6 = [l.tr, l.dy, l.fr, l.to, l.co, l.se] from rfl] at h1
  unfold legT
  have h2 : (⟨#[108, 101, 103]⟩ : ByteArray).size = 3 := rfl
  have h3 : (⟨#[10]⟩ : ByteArray).size = 1 := rfl
  rw [ba_size, ba_size, h2, h3]
  omega

theorem headT_size (t : Hd) (s : ByteArray) (h : Nums [t.id, t.cl, t.pr, t.fi, t.la]) (hs : s.size ≤ 40) : (headT t s).size ≤ 160 := by
  have h1 := ws_size _ h 5 (Nat.le_refl _)
  rw [show ([t.id, t.cl, t.pr, t.fi, t.la] : List Int).take 5 = [t.id, t.cl, t.pr, t.fi, t.la] from rfl] at h1
  unfold headT
  have h2 : (⟨#[104, 101, 97, 100]⟩ : ByteArray).size = 4 := rfl
  have h3 : (⟨#[10]⟩ : ByteArray).size = 1 := rfl
  have h4 : (⟨#[10, 110, 97, 109, 101, 32]⟩ : ByteArray).size = 6 := rfl
  rw [ba_size, ba_size, ba_size, ba_size, h2, h3, h4]
  omega

theorem putT_size (t : Hd) (s : ByteArray) (ls : List Lg) (h : okB t s ls = true) (k : Nat) (hk : k ≤ ls.length) : (putT t s ls k).size ≤ 160 + 130 * k := by
  obtain ⟨h1, h2, -, h4⟩ := okB_parts t s ls h
  induction k with
  | zero => have := headT_size t s h1 h2; unfold putT; omega
  | succ k ih =>
    have h5 := ih (by omega)
    have h6 := legT_size ls[k] (h4 _ (List.getElem_mem (by omega)))
    unfold putT
    rw [ba_size, List.getD_eq_getElem?_getD, List.getElem?_eq_getElem (by omega)]
    show (putT t s ls k).size + (legT ls[k]).size ≤ _
    omega

theorem putT_succ (t : Hd) (s : ByteArray) (ls : List Lg) (k : Nat) (hk : k < ls.length) : putT t s ls (k + 1) = putT t s ls k ++ legT ls[k] := by
  rw [putT, List.getD_eq_getElem?_getD, List.getElem?_eq_getElem hk]
  rfl

end Tk
end Go.Proofs.YtaplbjoghkipdaaDoor

/- Lines of wants: the numbers of a want, and what WantLine answers. -/
namespace Go.Proofs.YtaplbjoghkipdaaDoor
namespace Wn
open Go.ChangeShapes Go.WideShapes Go.ChangeAt Go.RowKit
open Pk (new_below join_below cell_at heap_new heap_old frozen_at lt_of kept info_of own_ge own_below own_form own_at)
open Num (decS Tens)
open Tk (inB nameB ws Nums RowZ decS_size ba_assoc ba_size ws_take)
open Rd (Ri Rides)
set_option linter.unusedSimpArgs false
set_option linter.unusedVariables false

/-- The numbers of a want ahead of its rides. -/
structure Wh where
  kd : Int
  rq : Int
  od : Int
  cl : Int
  cd : Int

/-- A want as a value. -/
abbrev wnV (h : Wh) (s : ByteArray) (a : Option Addr) (n cap : Nat) : Value := .agg #[.int .i64 h.kd, .int .i64 h.rq, .int .i64 h.od, .string s, .int .i64 h.cl, .int .i64 h.cd, .slice a n cap]

/-- It as a box. -/
abbrev wnB (h : Wh) (s : ByteArray) (a : Option Addr) (n cap : Nat) (t : TypeId) : Obj := .cells #[.int .i64 h.kd, .int .i64 h.rq, .int .i64 h.od, .string s, .int .i64 h.cl, .int .i64 h.cd, .slice a n cap] t

def rz (r : Ri) : List Int := [r.tr, r.dy, r.fr, r.to]

/-- The numbers of a want as far as k rides. -/
def wzk (h : Wh) (rs : List Ri) (k : Nat) : List Int := [h.kd, h.rq, h.od, h.cl, h.cd, (rs.length : Int)] ++ (rs.take k).flatMap rz

/-- All of them. -/
def wz (h : Wh) (rs : List Ri) : List Int := [h.kd, h.rq, h.od, h.cl, h.cd, (rs.length : Int)] ++ rs.flatMap rz

theorem wzk_all (h : Wh) (rs : List Ri) : wzk h rs rs.length = wz h rs := by unfold wzk wz; rw [List.take_length]

theorem wzk_zero (h : Wh) (rs : List Ri) : wzk h rs 0 = [h.kd, h.rq, h.od, h.cl, h.cd, (rs.length : Int)] := by simp [wzk]

theorem wzk_step (h : Wh) (rs : List Ri) (k : Nat) (hk : k < rs.length) : wzk h rs (k + 1) = wzk h rs k ++ rz rs[k] := by
  unfold wzk
  rw [List.take_succ_eq_append_getElem hk, List.flatMap_append, List.append_assoc]
  simp

theorem wzk_length (h : Wh) (rs : List Ri) : ∀ k, k ≤ rs.length → (wzk h rs k).length = 6 + 4 * k
  | 0, _ => by simp [wzk]
  | k + 1, hk => by
    rw [wzk_step h rs k (by omega), List.length_append, wzk_length h rs k (by omega)]
    show _ + 4 = _
    omega

theorem wz_length (h : Wh) (rs : List Ri) : (wz h rs).length = 6 + 4 * rs.length := by rw [← wzk_all]; exact wzk_length h rs _ (Nat.le_refl _)

/-- The cells of numbers. -/
def zcells (zs : List Int) : List Value := zs.map (Value.int .i64)

theorem zcells_append (a b : List Int) : zcells a ++ zcells b = zcells (a ++ b) := by simp [zcells]
theorem zcells_length (a : List Int) : (zcells a).length = a.length := by simp [zcells]
theorem zcells_at (l : List Int) (i : Nat) (h : i < l.length) : (zcells l)[i]? = some (.int .i64 l[i]) := by simp [zcells, h]

/-- A new row. -/
theorem own_list (W : World) (B : Nat) (vs : List Value) (t : TypeId) (hB : B ≤ W.heap.size) (hn : vs.length ≤ maxLen) : (W.alloc (.cells vs.toArray t)).ownsRow B t 1 (.slice (some ⟨W.heap.size, 0, none⟩) vs.length vs.length) vs.length vs :=
  ⟨by simp, Or.inr ⟨W.heap.size, vs.length, vs.toArray, rfl, hB, heap_new W _, Nat.le_refl _, hn, by simp, by simp⟩⟩

theorem cell_four (W : World) (n : Nat) (hn : n = W.heap.size) (x0 x1 x2 x3 : Value) (t : TypeId) : ∀ j u, [x0, x1, x2, x3][j]? = some u → (W.alloc (.cells #[x0, x1, x2, x3] t)).cell? (Addr.add ⟨n, 0, none⟩ j) = some u := by
  subst hn
  intro j u hu
  rw [show Addr.add ⟨W.heap.size, 0, none⟩ j = ⟨W.heap.size, j, none⟩ from by simp [Addr.add]; exact Eq.symm, cell_at (heap_new W (.cells #[x0, x1, x2, x3] t)) j]
  simpa using hu

set_option maxRecDepth 100000 in
set_option maxHeartbeats 4000000 in
theorem numbersOfWant_val (h : Wh) (s : ByteArray) (a : Option Addr) (rs : List Ri) (cap : Nat) (w : World) (hz : rs.length ≤ 1048576) (I : Rides w a rs) :
    Calls Tryd.prog 15 #[wnV h s a rs.length cap] w fun e w' => (∃ v, e = .returned v ∧ w'.ownsRow w.heap.size 3 1 v (wz h rs).length (zcells (wz h rs))) ∧ Below w.heap.size w w' := by
  obtain ⟨i0, hi, hz0, hz1, hz2⟩ := info_of Pk.info_int
  have m0 := heap_new w (wnB h s a rs.length cap 26)
  have N0 := new_below w (wnB h s a rs.length cap 26)
  have I0 := I.on N0
  have O0 := own_list (w.alloc (wnB h s a rs.length cap 26)) w.heap.size (zcells (wzk h rs 0)) 3 (by simp) (by rw [zcells_length, wzk_length h rs 0 (by omega)]; unfold maxLen; omega)
  have L0 : Below w.heap.size w ((w.alloc (wnB h s a rs.length cap 26)).alloc (.cells #[.int .i64 h.kd, .int .i64 h.rq, .int .i64 h.od, .int .i64 h.cl, .int .i64 h.cd, .int .i64 (rs.length : Int)] 3)) := N0.alloc N0.size _
  rw [zcells_length, wzk_length h rs 0 (by omega)] at O0
  have HWA : Hid (wzk h rs rs.length = wz h rs) := wzk_all h rs
  have HWL : Hid (∀ k, k ≤ rs.length → (wzk h rs k).length = 6 + 4 * k) := wzk_length h rs
  have HWZ : Hid ((wz h rs).length = 6 + 4 * rs.length) := wz_length h rs
  have HWS : Hid (∀ k (hk : k < rs.length), wzk h rs (k + 1) = wzk h rs k ++ rz rs[k]) := wzk_step h rs
  have c6 : (w.alloc (wnB h s a rs.length cap 26)).cell? ⟨w.heap.size, 6, none⟩ = some (.slice a rs.length cap) := cell_at m0 6
  have hs0 : (w.alloc (wnB h s a rs.length cap 26)).heap.size = w.heap.size + 1 := Array.size_push ..
  rw [hs0] at O0
  generalize hZ : wz h rs = Z at *
  go_enter Tryd.func15, Tryd.ntmps15
  go_wp2
  go_loopw [3, 23] (fun v i wr => ∃ k : Nat, k ≤ rs.length ∧ i = .int .i64 k ∧ wr.ownsRow w.heap.size 3 1 v (6 + 4 * k) (zcells (wzk h rs k)) ∧ Hid (Below w.heap.size w wr)) (fun _ i _ => rs.length - (intOf i).toNat)
  case atStart => exact ⟨0, by omega, rfl, O0, L0⟩
  case round =>
    clear O0 L0 N0 I0 m0 c6 hs0
    obtain ⟨k, hk, rfl, O, L⟩ := hrel
    by_cases hlt : k < rs.length
    · obtain ⟨b, o, rfl, hb, c0, c1, c2, c3⟩ := (I.on L.out).at k hlt
      have HS : Hid (_) := HWS.out k hlt
      have hkI : (k : Int) < (rs.length : Int) := by omega
      have hk0 : (0 : Int) ≤ (k : Int) := by omega
      have hBr : w.heap.size ≤ wr.heap.size := L.out.size
      generalize rs[k] = r at *
      have hs1 : (wr.alloc (.cells #[.int .i64 r.tr, .int .i64 r.dy, .int .i64 r.fr, .int .i64 r.to] 43)).heap.size = wr.heap.size + 1 := Array.size_push ..
      have LA : Below w.heap.size w ((wr.alloc (.cells #[.int .i64 r.tr, .int .i64 r.dy, .int .i64 r.fr, .int .i64 r.to] 43)).alloc (.cells #[.int .i64 r.tr, .int .i64 r.dy, .int .i64 r.fr, .int .i64 r.to] 3)) := (L.out.alloc hBr _).alloc (by rw [hs1]; omega) _
      go_wp2_with (at_builtin; refine wpList_append_own _ rfl _ _ 38 rfl w.heap.size 3 i0 (.int .i64 0) 1 8 Tryd.underlying38 hi hz0 hz1 hz2 rfl (by decide) _ _ _ rfl ((O.alloc _).alloc _) _ 4 4 [.int .i64 r.tr, .int .i64 r.dy, .int .i64 r.fr, .int .i64 r.to] rfl rfl ?c1 ?c2 ?c3 ?c4 ?c5 ?_)
      case c1 => exact cell_four _ _ hs1.symm _ _ _ _ _
      case c2 => intro u hu; simp at hu; rcases hu with rfl | rfl | rfl | rfl <;> rfl
      case c3 => unfold maxLen; omega
      case c4 => omega
      case c5 => exact LA.size
      intro v' w5 own5 grow5 _
      have L5 : Below w.heap.size w w5 := LA.grown grow5 (by simp; omega) (fun m h => own_ge O m h)
      rw [show [Value.int .i64 r.tr, .int .i64 r.dy, .int .i64 r.fr, .int .i64 r.to] = zcells (rz r) from rfl, zcells_append, ← HS.out, show 6 + 4 * k + 4 = 6 + 4 * (k + 1) from by omega] at own5
      clear grow5
      go_wp2
      go_roundw
      case rel => exact ⟨k + 1, by omega, by go_num, own5, L5⟩
      case measure => simp [intOf]; omega
    · obtain rfl : k = rs.length := by omega
      have hkI : ¬ (rs.length : Int) < (rs.length : Int) := by omega
      rw [HWA.out, ← HWZ.out] at O
      go_wp2
      go_ret
      exact ⟨⟨_, rfl, O⟩, L.out⟩

/-- Numbers, each with a blank behind it. -/
def dl (zs : List Int) : ByteArray := zs.foldl (fun o z => o ++ (decS z ++ ⟨#[32]⟩)) ⟨#[]⟩

theorem dl_take (zs : List Int) (k : Nat) (h : k < zs.length) : dl (zs.take (k + 1)) = dl (zs.take k) ++ (decS zs[k] ++ ⟨#[32]⟩) := by
  unfold dl
  rw [List.take_add_one, List.getElem?_eq_getElem h, List.foldl_append]
  rfl

theorem ws_dl (zs : List Int) : ∀ k, k ≤ zs.length → ws (zs.take k) ++ ⟨#[32]⟩ = ⟨#[32]⟩ ++ dl (zs.take k)
  | 0, _ => rfl
  | k + 1, h => by
    rw [ws_take zs k (by omega), dl_take zs k (by omega), ← ba_assoc (⟨#[32]⟩ : ByteArray) (dl _), ← ws_dl zs k (by omega), ba_assoc, ba_assoc, ba_assoc]

theorem ws_dl' (zs : List Int) : ws zs ++ ⟨#[32]⟩ = ⟨#[32]⟩ ++ dl zs := by
  have := ws_dl zs zs.length (Nat.le_refl _)
  rwa [List.take_length] at this

/-- All numbers are in their bounds. -/
def okZ (zs : List Int) : Bool := zs.all fun z => inB z 0 999999999

def okF (zs : List Int) (k : Nat) : Bool := (zs.drop k).all fun z => inB z 0 999999999

theorem okF_step (zs : List Int) (k : Nat) (h : k < zs.length) : okF zs k = (inB zs[k] 0 999999999 && okF zs (k + 1)) := by
  unfold okF
  rw [List.drop_eq_getElem_cons h]
  rfl

theorem okF_end (zs : List Int) (k : Nat) (h : ¬ k < zs.length) : okF zs k = true := by
  unfold okF
  rw [List.drop_of_length_le (by omega)]
  rfl

theorem okZ_nums {zs : List Int} (h : okZ zs = true) : Nums zs := by
  intro z hz
  unfold okZ at h
  rw [List.all_eq_true] at h
  exact Tk.inB_yes (h z hz)

/-- What WantLine answers. -/
def wlB (h : Wh) (s : ByteArray) (rs : List Ri) : Bool := okZ (wz h rs) && decide (rs.length ≤ 6) && nameB s
def wlS (h : Wh) (s : ByteArray) (rs : List Ri) : ByteArray := if wlB h s rs = true then dl (wz h rs) ++ s else ⟨#[]⟩

end Wn
end Go.Proofs.YtaplbjoghkipdaaDoor

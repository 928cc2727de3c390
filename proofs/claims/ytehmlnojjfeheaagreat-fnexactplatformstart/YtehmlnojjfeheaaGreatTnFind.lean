/- Contracts of FindTrain, of the program and of its model. -/
import Derived.Test.YtehmlnojjfeheaaGreatTnTrains2
namespace Go.Proofs.YtehmlnojjfeheaaGreat
namespace Tn
open Go.ChangeShapes Go.WideShapes Go.ChangeAt Go.RowKit
open Pk (new_below join_below cell_at heap_new frozen_at lt_of kept heap_old info_of own_form own_below Room)
set_option linter.unusedSimpArgs false
set_option linter.unusedVariables false

/-- The cells of a row of stops. -/
def scells (l : List St) : List Value := l.flatMap fun p => [.int .i64 p.st, .int .i64 p.ar, .int .i64 p.dp]

theorem scells_cons (p : St) (l : List St) : scells (p :: l) = .int .i64 p.st :: .int .i64 p.ar :: .int .i64 p.dp :: scells l := by simp [scells]

theorem scells_length (l : List St) : (scells l).length = l.length * 3 := by
  induction l with
  | nil => rfl
  | cons p l ih => rw [scells_cons]; simp [ih]; omega

theorem scells_at (l : List St) (k : Nat) (p : St) (h : l[k]? = some p) : (scells l)[k * 3]? = some (.int .i64 p.st) ∧ (scells l)[k * 3 + 1]? = some (.int .i64 p.ar) ∧ (scells l)[k * 3 + 2]? = some (.int .i64 p.dp) := by
  induction l generalizing k with
  | nil => simp at h
  | cons q l ih =>
    rw [scells_cons]
    cases k with
    | zero =>
      simp at h
      subst h
      exact ⟨rfl, rfl, rfl⟩
    | succ k =>
      have := ih k (by simpa using h)
      rw [show (k + 1) * 3 = k * 3 + 3 by omega]
      exact this

theorem scells_one (l : List St) : ∀ u ∈ scells l, u.oneCell' = true := by
  intro u hu
  unfold scells at hu
  simp at hu
  obtain ⟨p, -, h | h | h⟩ := hu <;> subst h <;> rfl

theorem Stops.news {w : World} {b o : Nat} {l : List St} (h : Stops w (some ⟨b, o, none⟩) l) : ∀ j u, (scells l)[j]? = some u → w.cell? (Addr.add ⟨b, o, none⟩ j) = some u := by
  intro j u hu
  rcases h with h | ⟨b', o', e, -, hc⟩
  · subst h; simp [scells] at hu
  · simp only [Option.some.injEq, Addr.mk.injEq, and_true] at e
    obtain ⟨rfl, rfl⟩ := e
    have hj : j < l.length * 3 := by
      rw [← scells_length]
      exact (List.getElem?_eq_some_iff.1 hu).1
    obtain ⟨i, r, hr, rfl⟩ : ∃ i r, r < 3 ∧ j = i * 3 + r := ⟨j / 3, j % 3, by omega, by omega⟩
    have hi : i < l.length := by omega
    obtain ⟨a0, a1, a2⟩ := scells_at l i l[i] (List.getElem?_eq_getElem hi)
    obtain ⟨c0, c1, c2⟩ := hc i hi
    have hr3 : r = 0 ∨ r = 1 ∨ r = 2 := by omega
    simp only [add_plain]
    rcases hr3 with rfl | rfl | rfl
    · rw [Nat.add_zero] at hu ⊢
      rw [a0] at hu
      rw [← hu, ← c0]
    · rw [a1] at hu
      rw [← hu, ← c1]
      rfl
    · rw [a2] at hu
      rw [← hu, ← c2]
      rfl

/-- A row of stops of one's own as a slice of stops. -/
theorem own_stop {w : World} {base : Nat} {v : Value} {n : Nat} {l : List St} (h : w.ownsRow base 139 3 v n (scells l)) (k : Nat) (hk : k < n) (p : St) (hp : l[k]? = some p) :
    ∃ g cap, v = .slice (some ⟨g, 0, none⟩) n cap ∧ base ≤ g ∧ g < w.heap.size ∧ w.cell? ⟨g, k * 3, none⟩ = some (.int .i64 p.st) ∧ w.cell? ⟨g, k * 3 + 1, none⟩ = some (.int .i64 p.ar) ∧ w.cell? ⟨g, k * 3 + 2, none⟩ = some (.int .i64 p.dp) ∧ ∀ o, w.frozen? ⟨g, o, none⟩ = false := by
  obtain ⟨hl, h2⟩ := h
  rcases h2 with ⟨hv, h0⟩ | ⟨g, cap, cur, hv, hg, hh, h1, h3, h4, h5⟩
  · omega
  · obtain ⟨a0, a1, a2⟩ := scells_at l k p hp
    have hc : ∀ o, o < n * 3 → w.cell? ⟨g, o, none⟩ = (scells l)[o]? := by
      intro o ho
      rw [cell_at hh, ← h5, List.getElem?_take, if_pos ho, Array.getElem?_toList]
    exact ⟨g, cap, hv, hg, lt_of hh, by rw [hc _ (by omega)]; exact a0, by rw [hc _ (by omega)]; exact a1, by rw [hc _ (by omega)]; exact a2, fun o => frozen_at hh o⟩

theorem stops_own {w : World} {base : Nat} {a : Option Addr} {cap : Nat} {l : List St} (h : w.ownsRow base 139 3 (.slice a l.length cap) l.length (scells l)) : Stops w a l := by
  by_cases h0 : l = []
  · exact Or.inl h0
  · have hpos : 0 < l.length := List.length_pos_iff.2 h0
    obtain ⟨g, cp, he, -, hg, -⟩ := own_stop h 0 hpos l[0] (List.getElem?_eq_getElem hpos)
    simp only [Value.slice.injEq] at he
    obtain ⟨rfl, -, -⟩ := he
    refine Or.inr ⟨g, 0, rfl, hg, fun i hi => ?_⟩
    obtain ⟨g', cp', he', -, -, c0, c1, c2, -⟩ := own_stop h i hi l[i] (List.getElem?_eq_getElem hi)
    simp only [Value.slice.injEq, Option.some.injEq, Addr.mk.injEq] at he'
    obtain ⟨⟨rfl, -⟩, -⟩ := he'
    rw [Nat.zero_add]
    exact ⟨c0, c1, c2⟩

/-- A store elsewhere keeps a row. -/
theorem own_other {w : World} {base e size : Nat} {v : Value} {n : Nat} {xs : List Value} {P : Nat} (h : w.ownsRow base e size v n xs) (hne : v.ownBlock ≠ some P) (i : Nat) (u : Value) : (w.setCell ⟨P, i, none⟩ u).ownsRow base e size v n xs := by
  obtain ⟨hl, h2⟩ := h
  refine ⟨hl, ?_⟩
  rcases h2 with h2 | ⟨g, cap, cur, hv, hg, hh, hr⟩
  · exact Or.inl h2
  · refine Or.inr ⟨g, cap, cur, hv, hg, ?_, hr⟩
    rw [Below.heap_setCell w ⟨P, i, none⟩ u g (by intro e; apply hne; rw [hv]; exact congrArg some e)]
    exact hh

theorem own_base' {w : World} {B base e size : Nat} {v : Value} {n : Nat} {xs : List Value} (h : w.ownsRow base e size v n xs) (hB : B ≤ base) : w.ownsRow B e size v n xs := by
  obtain ⟨hl, h2⟩ := h
  refine ⟨hl, ?_⟩
  rcases h2 with h2 | ⟨g, cap, cur, hv, hg, hr⟩
  · exact Or.inl h2
  · exact Or.inr ⟨g, cap, cur, hv, by omega, hr⟩

/-- The first train of an id. -/
def fnd (ts : List Tr) (id : Int) : Option Tr := ts.find? fun t => t.h.id == id

theorem fnd_at (ts : List Tr) (id : Int) (k : Nat) (hk : k < ts.length) (h : ∀ i (hi : i < ts.length), i < k → ts[i].h.id ≠ id) (e : ts[k].h.id = id) : fnd ts id = some ts[k] := by
  unfold fnd
  rw [List.find?_eq_some_iff_getElem]
  exact ⟨by simpa using e, k, hk, rfl, fun j hj => by simpa using h j (by omega) hj⟩

theorem fnd_none (ts : List Tr) (id : Int) (h : ∀ i (hi : i < ts.length), ts[i].h.id ≠ id) : fnd ts id = none := by
  unfold fnd
  rw [List.find?_eq_none]
  intro t ht
  obtain ⟨i, hi, rfl⟩ := List.getElem_of_mem ht
  simpa using h i hi

theorem info_stop' : (Tryz.prog.info? 139).map (fun i => (i.zero, i.size, i.bytes)) = some (some (.agg #[.int .i64 0, .int .i64 0, .int .i64 0]), 3, 24) := by kernel_rfl

/-- What FindTrain answers. -/
def Found (w w' : World) (r : Option Tr) (e : Ending) : Prop := match r with
  | some t => ∃ v, e = .returned (.tuple #[.agg #[.int .i64 t.h.id, .int .i64 t.h.dy, .int .i64 t.h.co, .int .i64 t.h.se, v], .bool true]) ∧ w'.ownsRow w.heap.size 139 3 v t.l.length (scells t.l)
  | none => e = .returned (.tuple #[trV ⟨0, 0, 0, 0⟩ none 0 0, .bool false])

set_option maxHeartbeats 4000000 in
theorem copyTrain_val (p : Hd) (bi oi ci : Nat) (q : List St) (w : World) (hq : q.length ≤ 1048576) (S : Stops w (some ⟨bi, oi, none⟩) q) :
    Calls Tryz.prog 77 #[trV p (some ⟨bi, oi, none⟩) q.length ci] w fun e w' => ∃ va vc, e = .returned (.agg #[.int .i64 p.id, .int .i64 p.dy, .int .i64 p.co, .int .i64 p.se, .slice va q.length vc]) ∧ w'.ownsRow w.heap.size 139 3 (.slice va q.length vc) q.length (scells q) ∧ Below w.heap.size w w' := by
  obtain ⟨i0, hi, hz0, hz1, hz2⟩ := info_of info_stop'
  obtain ⟨k0, k1, k2⟩ := three_blocks w (trB p (some ⟨bi, oi, none⟩) q.length ci 91) (trB ⟨0, 0, 0, 0⟩ none 0 0 91) (.cells #[] 139)
  have HM0 : Hid (_) := k0
  have HM1 : Hid (_) := k1
  have HM2 : Hid (_) := k2
  clear k0 k1 k2
  have L3 : Below w.heap.size w (((w.alloc (trB p (some ⟨bi, oi, none⟩) q.length ci 91)).alloc (trB ⟨0, 0, 0, 0⟩ none 0 0 91)).alloc (.cells #[] 139)) := join_below (join_below (new_below _ _) (new_below _ _)) (new_below _ _)
  have e1 : (w.alloc (trB p (some ⟨bi, oi, none⟩) q.length ci 91)).heap.size = w.heap.size + 1 := Array.size_push ..
  have e2 : ((w.alloc (trB p (some ⟨bi, oi, none⟩) q.length ci 91)).alloc (trB ⟨0, 0, 0, 0⟩ none 0 0 91)).heap.size = w.heap.size + 1 + 1 := by rw [← e1]; exact Array.size_push ..
  have O0 : (((w.alloc (trB p (some ⟨bi, oi, none⟩) q.length ci 91)).alloc (trB ⟨0, 0, 0, 0⟩ none 0 0 91)).alloc (.cells #[] 139)).ownsRow w.heap.size 139 3 (.slice (some ⟨w.heap.size + 1 + 1, 0, none⟩) 0 0) 0 [] := ⟨rfl, Or.inr ⟨w.heap.size + 1 + 1, 0, #[], rfl, by omega, HM2.out, by omega, by unfold maxLen; omega, rfl, rfl⟩⟩
  have HO0 : Hid (_) := O0
  have HS : Hid (_) := S.on L3
  have HL3 : Hid (_) := L3
  clear e1 e2 O0 L3 HM2
  go_enter Tryz.func77, Tryz.ntmps77
  go_wp2_with (at_builtin; refine wpList_append_own _ rfl _ _ 89 rfl w.heap.size 139 i0 (.agg #[.int .i64 0, .int .i64 0, .int .i64 0]) 3 24 Tryz.underlying89 hi hz0 hz1 hz2 rfl (by decide) _ 0 [] rfl HO0.out ⟨bi, oi, none⟩ q.length ci (scells q) rfl ?a1 ?a2 ?a3 ?a4 ?a5 ?a6 ?_)
  case a1 => exact scells_length q
  case a2 => intro j u hu; have h9 := Stops.news HS.out j u hu; simp only [add_plain] at h9; exact h9
  case a3 => exact scells_one q
  case a4 => unfold maxLen; omega
  case a5 => omega
  case a6 => omega
  intro v3 w3 hown3 hgrow _
  have L3 : Below (w.heap.size + 1 + 1) _ w3 := (Below.refl _ _).grown hgrow (by simp) (fun m h => by simp only [Value.ownBlock, Option.some.injEq] at h; omega)
  have x3 : w3.heap[w.heap.size]? = some (trB p (some ⟨bi, oi, none⟩) q.length ci 91) := kept L3 (by omega) HM0.out
  have m3 : w3.heap[w.heap.size + 1]? = some (trB ⟨0, 0, 0, 0⟩ none 0 0 91) := kept L3 (by omega) HM1.out
  have L4 : Below w.heap.size w w3 := HL3.out.trans (L3.mono (by omega))
  have o1 := Pk.own_ne' hown3 x3 (by decide)
  have o2 := Pk.own_ne' hown3 m3 (by decide)
  obtain ⟨va, vc, rfl, -⟩ := own_form hown3
  clear hgrow L3 HM0 HM1 HL3 HO0 HS S
  have d0 : w3.cell? ⟨w.heap.size, 0, none⟩ = some (.int .i64 p.id) := cell_at x3 0
  have d1 : w3.cell? ⟨w.heap.size, 1, none⟩ = some (.int .i64 p.dy) := cell_at x3 1
  have d2 : w3.cell? ⟨w.heap.size, 2, none⟩ = some (.int .i64 p.co) := cell_at x3 2
  have d3 : w3.cell? ⟨w.heap.size, 3, none⟩ = some (.int .i64 p.se) := cell_at x3 3
  have d4 : w3.cell? ⟨w.heap.size, 4, none⟩ = some (.slice (some ⟨bi, oi, none⟩) q.length ci) := cell_at x3 4
  have f4 : w3.frozen? ⟨w.heap.size, 4, none⟩ = false := frozen_at x3 4
  have z0 : w3.cell? ⟨w.heap.size + 1, 0, none⟩ = some (.int .i64 0) := cell_at m3 0
  have z1 : w3.cell? ⟨w.heap.size + 1, 1, none⟩ = some (.int .i64 0) := cell_at m3 1
  have z2 : w3.cell? ⟨w.heap.size + 1, 2, none⟩ = some (.int .i64 0) := cell_at m3 2
  have z3 : w3.cell? ⟨w.heap.size + 1, 3, none⟩ = some (.int .i64 0) := cell_at m3 3
  have z4 : w3.cell? ⟨w.heap.size + 1, 4, none⟩ = some (.slice none 0 0) := cell_at m3 4
  have y0 : w3.frozen? ⟨w.heap.size + 1, 0, none⟩ = false := frozen_at m3 0
  have y1 : w3.frozen? ⟨w.heap.size + 1, 1, none⟩ = false := frozen_at m3 1
  have y2 : w3.frozen? ⟨w.heap.size + 1, 2, none⟩ = false := frozen_at m3 2
  have y3 : w3.frozen? ⟨w.heap.size + 1, 3, none⟩ = false := frozen_at m3 3
  have y4 : w3.frozen? ⟨w.heap.size + 1, 4, none⟩ = false := frozen_at m3 4
  have HO : Hid (∀ i u, _) := fun i u => own_other (own_other (own_other (own_other (own_other (own_other hown3 o1 4 (.slice va q.length vc)) o2 0 (.int .i64 p.id)) o2 1 (.int .i64 p.dy)) o2 2 (.int .i64 p.co)) o2 3 (.int .i64 p.se)) o2 i u
  clear hown3 o1 o2 x3 m3
  go_wp2
  refine bodyPost_ret (v := .agg #[.int .i64 p.id, .int .i64 p.dy, .int .i64 p.co, .int .i64 p.se, .slice va q.length vc]) (by simp [results, Tryz.results77, go_sem, z0, z1, z2, z3, z4]) rfl ?_
  refine ⟨va, vc, rfl, HO.out 4 _, ?_⟩
  (repeat' (first | apply Below.setCell | exact L4)) <;> first | (simp; done) | (simp; omega)

end Tn
end Go.Proofs.YtehmlnojjfeheaaGreat

/- Contracts of FindTrain, of the program and of its model. -/
import Derived.Test.YtfoccmhmgdengaaTnTrains2
namespace Go.Proofs.Ytfoccmhmgdengaa
namespace Tn
open Go.ChangeShapes Go.WideShapes Go.ChangeAt Go.RowKit
open Pk (new_below join_below cell_at heap_new frozen_at lt_of kept heap_old info_of own_form own_below Room)
set_option linter.unusedSimpArgs false
set_option linter.unusedVariables false

/-- The cells of a row of stops. -/
def scells (l : List St) : List Value := l.flatMap fun p => [.int .i64 p.st, .int .i64 p.ar, .int .i64 p.dp]

theorem scells_cons (p : St) (l : List St) : scells (p :: l) = .int .i64 p.st :: .int .i64 p.ar :: .int .i64 p.dp :: scells l := by simp [scells]

theorem scells_length (l : List St) : (scells l).length = l.length * 3 := by
  induction l with
  | nil => rfl
  | cons p l ih => rw [scells_cons]; simp [ih]; omega

theorem scells_at (l : List St) (k : Nat) (p : St) (h : l[k]? = some p) : (scells l)[k * 3]? = some (.int .i64 p.st) ∧ (scells l)[k * 3 + 1]? = some (.int .i64 p.ar) ∧ (scells l)[k * 3 + 2]? = some (.int .i64 p.dp) := by
  induction l generalizing k with
  | nil => simp at h
  | cons q l ih =>
    rw [scells_cons]
    cases k with
    | zero =>
      simp at h
      subst h
      exact ⟨rfl, rfl, rfl⟩
    | succ k =>
      have := ih k (by simpa using h)
      rw [show (k + 1) * 3 = k * 3 + 3 by omega]
      exact this

theorem scells_one (l : List St) : ∀ u ∈ scells l, u.oneCell' = true := by
  intro u hu
  unfold scells at hu
  simp at hu
  obtain ⟨p, -, h | h | h⟩ := hu <;> subst h <;> rfl

theorem Stops.news {w : World} {b o : Nat} {l : List St} (h : Stops w (some ⟨b, o, none⟩) l) : ∀ j u, (scells l)[j]? = some u → w.cell? (Addr.add ⟨b, o, none⟩ j) = some u := by
  intro j u hu
  rcases h with h | ⟨b', o', e, -, hc⟩
  · subst h; simp [scells] at hu
  · simp only [Option.some.injEq, Addr.mk.injEq, and_true] at e
    obtain ⟨rfl, rfl⟩ := e
    have hj : j < l.length * 3 := by
      rw [← scells_length]
      exact (List.getElem?_eq_some_iff.1 hu).1
    obtain ⟨i, r, hr, rfl⟩ : ∃ i r, r < 3 ∧ j = i * 3 + r := ⟨j / 3, j % 3, by omega, by omega⟩
    have hi : i < l.length := by omega
    obtain ⟨a0, a1, a2⟩ := scells_at l i l[i] (List.getElem?_eq_getElem hi)
    obtain ⟨c0, c1, c2⟩ := hc i hi
    have hr3 : r = 0 ∨ r = 1 ∨ r = 2 := by omega
    simp only [add_plain]
    rcases hr3 with rfl | rfl | rfl
    · rw [Nat.add_zero] at hu ⊢
      rw [a0] at hu
      rw [← hu, ← c0]
    · rw [a1] at hu
      rw [← hu, ← c1]
      rfl
    · rw [a2] at hu
      rw [← hu, ← c2]
      rfl

/-- A row of stops of one's own as a slice of stops. -/
theorem own_stop {w : World} {base : Nat} {v : Value} {n : Nat} {l : List St} (h : w.ownsRow base 42 3 v n (scells l)) (k : Nat) (hk : k < n) (p : St) (hp : l[k]? = some p) :
    ∃ g cap, v = .slice (some ⟨g, 0, none⟩) n cap ∧ base ≤ g ∧ g < w.heap.size ∧ w.cell? ⟨g, k * 3, none⟩ = some (.int .i64 p.st) ∧ w.cell? ⟨g, k * 3 + 1, none⟩ = some (.int .i64 p.ar) ∧ w.cell? ⟨g, k * 3 + 2, none⟩ = some (.int .i64 p.dp) ∧ ∀ o, w.frozen? ⟨g, o, none⟩ = false := by
  obtain ⟨hl, h2⟩ := h
  rcases h2 with ⟨hv, h0⟩ | ⟨g, cap, cur, hv, hg, hh, h1, h3, h4, h5⟩
  · omega
  · obtain ⟨a0, a1, a2⟩ := scells_at l k p hp
    have hc : ∀ o, o < n * 3 → w.cell? ⟨g, o, none⟩ = (scells l)[o]? := by
      intro o ho
      rw [cell_at hh, ← h5, List.getElem?_take, if_pos ho, Array.getElem?_toList]
    exact ⟨g, cap, hv, hg, lt_of hh, by rw [hc _ (by omega)]; exact a0, by rw [hc _ (by omega)]; exact a1, by rw [hc _ (by omega)]; exact a2, fun o => frozen_at hh o⟩

theorem stops_own {w : World} {base : Nat} {a : Option Addr} {cap : Nat} {l : List St} (h : w.ownsRow base 42 3 (.slice a l.length cap) l.length (scells l)) : Stops w a l := by
  by_cases h0 : l = []
  · exact Or.inl h0
  · have hpos : 0 < l.length := List.length_pos_iff.2 h0
    obtain ⟨g, cp, he, -, hg, -⟩ := own_stop h 0 hpos l[0] (List.getElem?_eq_getElem hpos)
    simp only [Value.slice.injEq] at he
    obtain ⟨rfl, -, -⟩ := he
    refine Or.inr ⟨g, 0, rfl, hg, fun i hi => ?_⟩
    obtain ⟨g', cp', he', -, -, c0, c1, c2, -⟩ := own_stop h i hi l[i] (List.getElem?_eq_getElem hi)
    simp only [Value.slice.injEq, Option.some.injEq, Addr.mk.injEq] at he'
    obtain ⟨⟨rfl, -⟩, -⟩ := he'
    rw [Nat.zero_add]
    exact ⟨c0, c1, c2⟩

/-- A store elsewhere keeps a row. -/
theorem own_other {w : World} {base e size : Nat} {v : Value} {n : Nat} {xs : List Value} {P : Nat} (h : w.ownsRow base e size v n xs) (hne : v.ownBlock ≠ some P) (i : Nat) (u : Value) : (w.setCell ⟨P, i, none⟩ u).ownsRow base e size v n xs := by
  obtain ⟨hl, h2⟩ := h
  refine ⟨hl, ?_⟩
  rcases h2 with h2 | ⟨g, cap, cur, hv, hg, hh, hr⟩
  · exact Or.inl h2
  · refine Or.inr ⟨g, cap, cur, hv, hg, ?_, hr⟩
    rw [Below.heap_setCell w ⟨P, i, none⟩ u g (by intro e; apply hne; rw [hv]; exact congrArg some e)]
    exact hh

theorem own_base' {w : World} {B base e size : Nat} {v : Value} {n : Nat} {xs : List Value} (h : w.ownsRow base e size v n xs) (hB : B ≤ base) : w.ownsRow B e size v n xs := by
  obtain ⟨hl, h2⟩ := h
  refine ⟨hl, ?_⟩
  rcases h2 with h2 | ⟨g, cap, cur, hv, hg, hr⟩
  · exact Or.inl h2
  · exact Or.inr ⟨g, cap, cur, hv, by omega, hr⟩

/-- The first train of an id. -/
def fnd (ts : List Tr) (id : Int) : Option Tr := ts.find? fun t => t.h.id == id

theorem fnd_at (ts : List Tr) (id : Int) (k : Nat) (hk : k < ts.length) (h : ∀ i (hi : i < ts.length), i < k → ts[i].h.id ≠ id) (e : ts[k].h.id = id) : fnd ts id = some ts[k] := by
  unfold fnd
  rw [List.find?_eq_some_iff_getElem]
  exact ⟨by simpa using e, k, hk, rfl, fun j hj => by simpa using h j (by omega) hj⟩

theorem fnd_none (ts : List Tr) (id : Int) (h : ∀ i (hi : i < ts.length), ts[i].h.id ≠ id) : fnd ts id = none := by
  unfold fnd
  rw [List.find?_eq_none]
  intro t ht
  obtain ⟨i, hi, rfl⟩ := List.getElem_of_mem ht
  simpa using h i hi

theorem info_stop' : (Try.prog.info? 42).map (fun i => (i.zero, i.size, i.bytes)) = some (some (.agg #[.int .i64 0, .int .i64 0, .int .i64 0]), 3, 24) := by kernel_rfl

/-- What FindTrain answers. -/
def Found (w w' : World) (r : Option Tr) (e : Ending) : Prop := match r with
  | some t => ∃ v, e = .returned (.tuple #[.agg #[.int .i64 t.h.id, .int .i64 t.h.dy, .int .i64 t.h.co, .int .i64 t.h.se, v], .bool true]) ∧ w'.ownsRow w.heap.size 42 3 v t.l.length (scells t.l)
  | none => e = .returned (.tuple #[trV ⟨0, 0, 0, 0⟩ none 0 0, .bool false])

set_option maxHeartbeats 4000000 in
theorem implFind_val (a : Option Addr) (ts : List Tr) (cap : Nat) (id : Int) (w : World) (hn : ts.length ≤ 1048576) (hs : ∀ i (h : i < ts.length), ts[i].l.length ≤ 1048576) (I : Trains w a ts) :
    Calls Try.prog 10 #[.slice a ts.length cap, .int .i64 id] w fun e w' => Found w w' (fnd ts id) e ∧ Below w.heap.size w w' := by
  have HH : Hid (∀ i (h : i < ts.length), ts[i].l.length ≤ 1048576) := hs
  clear hs
  obtain ⟨i0, hi, hz0, hz1, hz2⟩ := info_of info_stop'
  have N := new_below w (trB ⟨0, 0, 0, 0⟩ none 0 0 33)
  have mr := heap_new w (trB ⟨0, 0, 0, 0⟩ none 0 0 33)
  have I0 := I.on N
  go_enter Try.func10, Try.ntmps10
  go_wp2
  generalize w.alloc (trB ⟨0, 0, 0, 0⟩ none 0 0 33) = W at *
  go_loopw [10] (fun i wr => ∃ k : Nat, k ≤ ts.length ∧ i = .int .i64 k ∧ Below W.heap.size W wr ∧ Hid (∀ i (hi : i < ts.length), i < k → ts[i].h.id ≠ id)) (fun i _ => ts.length - (intOf i).toNat)
  case atStart => exact ⟨0, by omega, rfl, Below.refl _ _, fun i _ h => by omega⟩
  case round =>
    obtain ⟨k, hk, rfl, L, H⟩ := hrel
    by_cases hkn : k < ts.length
    · obtain ⟨b, o, bi, oi, ci, rfl, hlt, c0, c1, c2, c3, c4, S⟩ := (I0.on L).at k hkn
      by_cases e : ts[k].h.id = id
      · have HE : Hid (fnd ts id = some ts[k]) := fnd_at ts id k hkn H.out e
        have e2 : (ts[k].h.id == id) = true := beq_iff_eq.2 e
        have hq := HH.out k hkn
        clear e H
        generalize ts[k] = t at *
        obtain ⟨p, q⟩ := t
        dsimp only at c0 c1 c2 c3 c4 S e2 hq
        have NB := new_below wr (trB p (some ⟨bi, oi, none⟩) q.length ci 33)
        have x := heap_new wr (trB p (some ⟨bi, oi, none⟩) q.length ci 33)
        have m1 := kept NB (lt_of (kept L (lt_of mr) mr)) (kept L (lt_of mr) mr)
        have L1 := join_below L NB
        have S1 := S.on NB
        have d0 : (wr.alloc (trB p (some ⟨bi, oi, none⟩) q.length ci 33)).cell? ⟨wr.heap.size, 0, none⟩ = some (.int .i64 p.id) := cell_at x 0
        have d4 : (wr.alloc (trB p (some ⟨bi, oi, none⟩) q.length ci 33)).cell? ⟨wr.heap.size, 4, none⟩ = some (.slice (some ⟨bi, oi, none⟩) q.length ci) := cell_at x 4
        have HBW : Hid (w.heap.size ≤ (wr.alloc (trB p (some ⟨bi, oi, none⟩) q.length ci 33)).heap.size) := Nat.le_trans N.size L1.size
        have HLE : Hid (w.heap.size < wr.heap.size) := lt_of (kept L (lt_of mr) mr)
        have HRB : Hid (w.heap.size ≠ wr.heap.size) := by have := lt_of (kept L (lt_of mr) mr); show _ ≠ _; omega
        go_wp2_with (at_builtin; refine wpList_append_own _ rfl _ _ 31 rfl w.heap.size 42 i0 (.agg #[.int .i64 0, .int .i64 0, .int .i64 0]) 3 24 Try.underlying31 hi hz0 hz1 hz2 rfl (by decide) _ 0 [] rfl ⟨rfl, Or.inl ⟨rfl, rfl⟩⟩ ⟨bi, oi, none⟩ q.length ci (scells q) rfl ?a1 ?a2 ?a3 ?a4 ?a5 ?a6 ?_)
        case a1 => exact scells_length q
        case a2 => exact S1.news
        case a3 => exact scells_one q
        case a4 => unfold maxLen; omega
        case a5 => omega
        case a6 => exact HBW.out
        intro v3 w3 hown3 hgrow _
        have L3 : Below _ _ w3 := (Below.refl _ _).grown hgrow (Nat.le_refl _) (fun m h => by cases h)
        have x3 := kept L3 (lt_of x) x
        have m3 := kept L3 (lt_of m1) m1
        have L4 := join_below N (join_below L1 L3)
        have o1 := Pk.own_ne' hown3 x3 (by decide)
        have o2 := Pk.own_ne' hown3 m3 (by decide)
        obtain ⟨va, vc, rfl, -⟩ := own_form hown3
        clear hgrow L3 L1 NB x m1 S S1 c0 c1 c2 c3 c4 d0 d4 L mr
        have d0 : w3.cell? ⟨wr.heap.size, 0, none⟩ = some (.int .i64 p.id) := cell_at x3 0
        have d1 : w3.cell? ⟨wr.heap.size, 1, none⟩ = some (.int .i64 p.dy) := cell_at x3 1
        have d2 : w3.cell? ⟨wr.heap.size, 2, none⟩ = some (.int .i64 p.co) := cell_at x3 2
        have d3 : w3.cell? ⟨wr.heap.size, 3, none⟩ = some (.int .i64 p.se) := cell_at x3 3
        have d4 : w3.cell? ⟨wr.heap.size, 4, none⟩ = some (.slice (some ⟨bi, oi, none⟩) q.length ci) := cell_at x3 4
        have f4 : w3.frozen? ⟨wr.heap.size, 4, none⟩ = false := frozen_at x3 4
        have z0 : w3.cell? ⟨w.heap.size, 0, none⟩ = some (.int .i64 0) := cell_at m3 0
        have z1 : w3.cell? ⟨w.heap.size, 1, none⟩ = some (.int .i64 0) := cell_at m3 1
        have z2 : w3.cell? ⟨w.heap.size, 2, none⟩ = some (.int .i64 0) := cell_at m3 2
        have z3 : w3.cell? ⟨w.heap.size, 3, none⟩ = some (.int .i64 0) := cell_at m3 3
        have z4 : w3.cell? ⟨w.heap.size, 4, none⟩ = some (.slice none 0 0) := cell_at m3 4
        have y0 : w3.frozen? ⟨w.heap.size, 0, none⟩ = false := frozen_at m3 0
        have y1 : w3.frozen? ⟨w.heap.size, 1, none⟩ = false := frozen_at m3 1
        have y2 : w3.frozen? ⟨w.heap.size, 2, none⟩ = false := frozen_at m3 2
        have y3 : w3.frozen? ⟨w.heap.size, 3, none⟩ = false := frozen_at m3 3
        have y4 : w3.frozen? ⟨w.heap.size, 4, none⟩ = false := frozen_at m3 4
        have HO : Hid (∀ i u, _) := fun i u => own_other (own_other (own_other (own_other (own_other (own_other hown3 o1 4 (.slice va q.length vc)) o2 0 (.int .i64 p.id)) o2 1 (.int .i64 p.dy)) o2 2 (.int .i64 p.co)) o2 3 (.int .i64 p.se)) o2 i u
        have hle : w.heap.size ≤ wr.heap.size := (by have := HLE.out; omega)
        have hne := HRB.out
        have hne2 : wr.heap.size ≠ w.heap.size := fun h => hne h.symm
        clear hown3 o1 o2 x3 m3
        go_wp2
        refine bodyPost_ret (v := .tuple #[.agg #[.int .i64 p.id, .int .i64 p.dy, .int .i64 p.co, .int .i64 p.se, .slice va q.length vc], .bool true]) (by simp [results, Try.results10, go_sem, z0, z1, z2, z3, z4]) rfl ?_
        refine ⟨?_, ?_⟩
        · rw [HE.out]
          exact ⟨_, rfl, HO.out 4 _⟩
        · (repeat' (first | apply Below.setCell | exact L4)) <;> first | (simp; done) | (simp; omega)
      · have HE : Hid (∀ i (hi : i < ts.length), i < k + 1 → ts[i].h.id ≠ id) := by
          intro i hi hik
          by_cases h : i = k
          · subst h; exact e
          · exact H.out i hi (by omega)
        have e2 : (ts[k].h.id == id) = false := beq_eq_false_iff_ne.2 e
        clear e H
        generalize ts[k].h = p at *
        generalize ts[k].l.length = m at *
        go_wp2
        go_roundw
        case rel => exact ⟨k + 1, by omega, by go_num, (join_below L (new_below _ _)), HE⟩
        case measure => simp [intOf]; omega
    · have HE : Hid (fnd ts id = none) := fnd_none ts id fun i hi => H.out i hi (by omega)
      have m3 := kept L (lt_of mr) mr
      have z0 : wr.cell? ⟨w.heap.size, 0, none⟩ = some (.int .i64 0) := cell_at m3 0
      have z1 : wr.cell? ⟨w.heap.size, 1, none⟩ = some (.int .i64 0) := cell_at m3 1
      have z2 : wr.cell? ⟨w.heap.size, 2, none⟩ = some (.int .i64 0) := cell_at m3 2
      have z3 : wr.cell? ⟨w.heap.size, 3, none⟩ = some (.int .i64 0) := cell_at m3 3
      have z4 : wr.cell? ⟨w.heap.size, 4, none⟩ = some (.slice none 0 0) := cell_at m3 4
      have y0 : wr.frozen? ⟨w.heap.size, 0, none⟩ = false := frozen_at m3 0
      have y1 : wr.frozen? ⟨w.heap.size, 1, none⟩ = false := frozen_at m3 1
      have y2 : wr.frozen? ⟨w.heap.size, 2, none⟩ = false := frozen_at m3 2
      have y3 : wr.frozen? ⟨w.heap.size, 3, none⟩ = false := frozen_at m3 3
      have y4 : wr.frozen? ⟨w.heap.size, 4, none⟩ = false := frozen_at m3 4
      clear H mr m3
      go_wp2
      refine bodyPost_ret (v := .tuple #[trV ⟨0, 0, 0, 0⟩ none 0 0, .bool false]) (by simp [results, Try.results10, go_sem, z0, z1, z2, z3, z4]) rfl ?_
      refine ⟨by rw [HE.out]; rfl, ?_⟩
      have L9 := join_below N L
      (repeat' (first | apply Below.setCell | exact L9)) <;> first | (simp; done) | (simp; omega)

end Tn
end Go.Proofs.Ytfoccmhmgdengaa

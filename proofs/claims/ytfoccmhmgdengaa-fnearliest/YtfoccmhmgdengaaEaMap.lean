/- Rows of hops of one's own, and a map from stations to such rows. -/
import Derived.Test.YtfoccmhmgdengaaEaCand
import Derived.Test.YtfoccmhmgdengaaMathGrd
import Derived.Maps.AppendAt
import Derived.Maps.Keyed
import Derived.BigRegion
import Derived.WideKeyEntry
namespace Go.Proofs.Ytfoccmhmgdengaa
namespace Rd
namespace Em
open Go.ChangeShapes Go.WideShapes Go.ChangeAt Go.RowKit
open Pk (new_below join_below cell_at heap_new frozen_at lt_of kept heap_old Drawn info_of own_form own_below Room)
set_option linter.unusedSimpArgs false
set_option linter.unusedVariables false

open Go.ChangeMaps (setBlock)

/-- The cells of holds. -/
def hc1 (p : Hp) : List Value := [.int .i64 p.r.tr, .int .i64 p.r.dy, .int .i64 p.r.fr, .int .i64 p.r.to, .int .i64 p.d, .int .i64 p.z]
def hcells (l : List Hp) : List Value := l.flatMap hc1

theorem hcells_nil : hcells [] = [] := rfl
theorem hcells_cons (p : Hp) (l : List Hp) : hcells (p :: l) = hc1 p ++ hcells l := rfl
theorem hcells_append (l m : List Hp) : hcells l ++ hcells m = hcells (l ++ m) := by simp [hcells]
theorem hcells_snoc (l : List Hp) (p : Hp) : hcells l ++ hc1 p = hcells (l ++ [p]) := by simp [hcells]
theorem hcells_length (l : List Hp) : (hcells l).length = l.length * 6 := by
  induction l with
  | nil => rfl
  | cons p l ih => rw [hcells_cons, List.length_append, ih, List.length_cons]; simp [hc1]; omega
theorem hc1_length (p : Hp) : (hc1 p).length = 6 := rfl
theorem hcells_one (l : List Hp) : ∀ u ∈ hcells l, u.oneCell' = true := by
  intro u hu
  unfold hcells at hu
  rw [List.mem_flatMap] at hu
  obtain ⟨p, -, hu⟩ := hu
  simp only [hc1, List.mem_cons, List.not_mem_nil, or_false] at hu
  rcases hu with rfl | rfl | rfl | rfl | rfl | rfl <;> rfl

theorem hcells_get (l : List Hp) (k c : Nat) (hk : k < l.length) (hc : c < 6) : (hcells l)[k * 6 + c]? = (hc1 l[k])[c]? := by
  induction l generalizing k with
  | nil => simp at hk
  | cons p l ih =>
    rw [hcells_cons]
    cases k with
    | zero =>
      rw [List.getElem?_append_left (by rw [hc1_length]; omega)]
      simp
    | succ k =>
      rw [List.getElem?_append_right (by rw [hc1_length]; omega), hc1_length, show (k + 1) * 6 + c - 6 = k * 6 + c by omega, ih k (by simpa using hk)]
      simp

/-- The cells of a row of one's own. -/
theorem own_cell {w : World} {base e n : Nat} {v : Value} {xs : List Value} (h : w.ownsRow base e 6 v n xs) (hn : 0 < n) :
    ∃ g cap, v = .slice (some ⟨g, 0, none⟩) n cap ∧ base ≤ g ∧ g < w.heap.size ∧ (∀ i u, xs[i]? = some u → w.cell? ⟨g, i, none⟩ = some u) ∧ ∀ i, w.frozen? ⟨g, i, none⟩ = false := by
  obtain ⟨hl, h2⟩ := h
  rcases h2 with ⟨hv, h0⟩ | ⟨g, cap, cur, hv, hg, hh, h1, h3, h4, h5⟩
  · omega
  · refine ⟨g, cap, hv, hg, lt_of hh, fun i u hu => ?_, fun i => frozen_at hh i⟩
    rw [cell_at hh]
    have hx := (List.getElem?_eq_some_iff.1 hu).1
    have h6 : (cur.toList.take (n * 6))[i]? = xs[i]? := by rw [h5]
    rw [List.getElem?_take, if_pos (by omega), Array.getElem?_toList] at h6
    rw [h6]
    exact hu

theorem keyLaw : Maps.Keyed Try.prog 3 := Maps.int_keyed Try.underlying3

abbrev WfI (x : Int) : Prop := (Lit.int .i64 x).wf = true

theorem ky_key {k : Int} (h : WfI k) : ∃ l, keyOf Try.prog 3 (.int .i64 k) = some l := ⟨_, Maps.keyOf_int_mk Try.underlying3 h⟩

theorem ky_inj {a b : Int} (h : Value.int .i64 a = .int .i64 b) : a = b := by
  simp only [Value.int.injEq, true_and] at h
  exact h

/-- Block b is a map that has the holds f k at each key k, in rows from block B on of which no two are one. -/
structure Mp (B b : Nat) (f : Int → List Hp) (es : Array MapEntry) (clock : Nat) (w : World) : Prop where
  blk : w.heap[b]? = some (.map es clock)
  keys : ∀ e ∈ es.toList, ∃ k, WfI k ∧ e.key = .int .i64 k
  rows : ∀ e ∈ es.toList, ∀ k, e.key = .int .i64 k → f k ≠ [] ∧ w.ownsRow B 76 6 e.val (f k).length (hcells (f k))
  has : ∀ k, f k ≠ [] → ∃ e ∈ es.toList, e.key = .int .i64 k
  apart : ∀ (i j : Nat) (x y : MapEntry), es.toList[i]? = some x → es.toList[j]? = some y → i ≠ j → x.key ≠ y.key ∧ x.val.ownBlock ≠ y.val.ownBlock
  st : MapKept.Stamped es clock

theorem mp_new (B : Nat) (w : World) : Mp B w.heap.size (fun _ => []) #[] 0 (w.alloc (.map #[] 0)) :=
  ⟨heap_new w _, by simp, by simp, fun k h => absurd rfl h, by intro i j x y h; simp at h, MapKept.stamped_empty 0⟩

/-- What keeps the blocks below a bound keeps a map all of whose blocks lie there. -/
theorem Mp.on {B b : Nat} {f : Int → List Hp} {es : Array MapEntry} {clock : Nat} {w w1 : World} (M : Mp B b f es clock w) (L : Below w.heap.size w w1) : Mp B b f es clock w1 :=
  ⟨kept L (lt_of M.blk) M.blk, M.keys, fun e he k hk => ⟨(M.rows e he k hk).1, own_below (M.rows e he k hk).2 L (Nat.le_refl _)⟩, M.has, M.apart, M.st⟩

theorem zero_holds (w : World) : (zeroValue 101).run Try.prog w = .ok (.slice none 0 0) w := by
  simp [go_sem, Try.zeroValue101]

theorem own_setBlock {w : World} {b base e size : Nat} {o o' : Obj} {v : Value} {n : Nat} {xs : List Value} (h : w.ownsRow base e size v n xs) (hb : w.heap[b]? = some o) (ho : ∀ cs t fz, o ≠ .cells cs t fz) : (setBlock w b o').ownsRow base e size v n xs := by
  obtain ⟨h1, h2⟩ := h
  refine ⟨h1, ?_⟩
  rcases h2 with h2 | ⟨g, cap, cur, hv, hg, hh, hr⟩
  · exact Or.inl h2
  · refine Or.inr ⟨g, cap, cur, hv, hg, ?_, hr⟩
    have hne : g ≠ b := by
      intro e
      subst e
      rw [hb] at hh
      exact ho _ _ _ (Option.some.inj hh)
    show (w.heap.setIfInBounds b o')[g]? = _
    rw [(MapKept.heap_set (o' := o') hb).2 g hne]
    exact hh

theorem map_not_cells (es : Array MapEntry) (clock : Nat) : ∀ cs t fz, Obj.map es clock ≠ .cells cs t fz := by
  intro cs t fz h
  cases h

theorem own_some {w : World} {base e : Nat} {v : Value} {l : List Hp} (h : w.ownsRow base e 6 v l.length (hcells l)) (hl : l ≠ []) : ∃ g, v.ownBlock = some g ∧ g < w.heap.size := by
  obtain ⟨g, cap, rfl, -, hg, -⟩ := own_cell h (by cases l with | nil => exact absurd rfl hl | cons a l => simp)
  exact ⟨g, rfl, hg⟩

/-- The holds with one more at a key. -/
def more (f : Int → List Hp) (k : Int) (x : Hp) : Int → List Hp := fun q => if q = k then f k ++ [x] else f q

theorem more_same (f : Int → List Hp) (k : Int) (x : Hp) : more f k x k = f k ++ [x] := if_pos rfl
theorem more_other (f : Int → List Hp) (k q : Int) (x : Hp) (h : q ≠ k) : more f k x q = f q := if_neg h

/-- What is looked up at a key; what is then stored there. -/
theorem Mp.look {B b : Nat} {f : Int → List Hp} {es : Array MapEntry} {clock : Nat} {w : World} (M : Mp B b f es clock w) (k : Int) (hk : WfI k) :
    ∃ (v0 : Value), (∀ w1 : World, w1.heap[b]? = some (.map es clock) → (Instr.lookup 62 (.map (some b)) (.int .i64 k) false).run Try.prog w1 = .ok v0 w1) ∧
      w.ownsRow B 76 6 v0 (f k).length (hcells (f k)) ∧
      ∀ (w2 : World) (v' : Value) (x : Hp), w2.heap[b]? = some (.map es clock) → w2.ownsRow B 76 6 v' (f k ++ [x]).length (hcells (f k ++ [x])) →
        ((∃ g, v'.ownBlock = some g ∧ v0.ownBlock = some g) ∨ ∃ g, v'.ownBlock = some g ∧ w.heap.size ≤ g) →
        (∀ u n xs, w.ownsRow B 76 6 u n xs → u.ownBlock ≠ v0.ownBlock → w2.ownsRow B 76 6 u n xs) →
        ∃ es' clock', (Instr.mapUpdate 62 (.map (some b)) (.int .i64 k) v').run Try.prog w2 = .ok () (setBlock w2 b (.map es' clock')) ∧ Mp B b (more f k x) es' clock' (setBlock w2 b (.map es' clock')) := by
  obtain ⟨l, hl⟩ := ky_key hk
  have hks : ∀ e ∈ es.toList, ∃ l, keyOf Try.prog 3 e.key = some l := by
    intro e he
    obtain ⟨k', hw', hk'⟩ := M.keys e he
    rw [hk']
    exact ky_key hw'
  have hfind : (∀ w : World, (Instr.findKey 3 (.int .i64 k) es.toList).run Try.prog w = .ok none w) ∧ (∀ e ∈ es.toList, e.key ≠ Value.int .i64 k) ∨ ∃ j e, (∀ w : World, (Instr.findKey 3 (.int .i64 k) es.toList).run Try.prog w = .ok (some (j, e.val)) w) ∧ es.toList[j]? = some e ∧ e.key = .int .i64 k := by
    rcases keyLaw.find w hl es.toList hks with ⟨h1, h2⟩ | ⟨j, e0, h1, h2, h3⟩
    · refine Or.inl ⟨fun w1 => ?_, h2⟩
      rcases keyLaw.find w1 hl es.toList hks with ⟨h, -⟩ | ⟨j, e, -, h4, h5⟩
      · exact h
      · exact absurd h5 (h2 e (List.mem_of_getElem? h4))
    · refine Or.inr ⟨j, e0, fun w1 => ?_, h2, h3⟩
      rcases keyLaw.find w1 hl es.toList hks with ⟨-, h⟩ | ⟨j', e, h, h4, h5⟩
      · exact absurd h3 (h e0 (List.mem_of_getElem? h2))
      · have hjj : j' = j := by
          apply Classical.byContradiction
          intro hne
          exact (M.apart j' j e e0 h4 h2 hne).1 (by rw [h5, h3])
        subst hjj
        rw [h2] at h4
        cases h4
        exact h
  rcases hfind with ⟨h1, h2⟩ | ⟨j, e0, h1, h2, h3⟩
  · have hfk : f k = [] := by
      apply Classical.byContradiction
      intro hn
      obtain ⟨e, he, hk⟩ := M.has k hn
      exact h2 e he hk
    refine ⟨.slice none 0 0, fun w1 hb1 => ?_, by rw [hfk]; exact World.ownsRow_nil _ _ _ _, ?_⟩
    · simp [Instr.lookup, run_underlying Try.underlying62, MapKept.run_getObj_map hb1, keyLaw.check w1 _ hl, h1, zero_holds, Result.andThen]
    · intro w2 v' x hw2 hown hblk hkeep
      refine ⟨es.push ⟨Value.int .i64 k, v', clock⟩, clock + 1, ?_, ?_⟩
      · simp [Instr.mapUpdate, run_underlying Try.underlying62, MapKept.run_getObj_map hw2, keyLaw.check w2 false hl, h1, MapKept.run_setObj_map _ hw2, Result.andThen, setBlock]
      · have hrow : ∀ e ∈ es.toList, ∀ q, e.key = .int .i64 q → q ≠ k ∧ f q ≠ [] ∧ w2.ownsRow B 76 6 e.val (f q).length (hcells (f q)) := by
          intro e he q hq
          obtain ⟨r1, r2⟩ := M.rows e he q hq
          obtain ⟨g, hg, -⟩ := own_some r2 r1
          refine ⟨fun e1 => h2 e he (by rw [hq, e1]), r1, hkeep _ _ _ r2 (by rw [hg]; simp [Value.ownBlock])⟩
        have hmem : ∀ e, e ∈ (es.push ⟨Value.int .i64 k, v', clock⟩).toList → e ∈ es.toList ∨ e = ⟨Value.int .i64 k, v', clock⟩ := by
          intro e he
          simpa using he
        refine ⟨(MapKept.heap_set hw2).1, ?_, ?_, ?_, ?_, MapKept.stamped_push M.st h2⟩
        · intro e he
          rcases hmem e he with h | rfl
          · exact M.keys e h
          · exact ⟨k, hk, rfl⟩
        · intro e he q hq
          rcases hmem e he with h | rfl
          · obtain ⟨n1, n2, n3⟩ := hrow e h q hq
            rw [more_other f k q x n1]
            exact ⟨n2, own_setBlock n3 hw2 (map_not_cells _ _)⟩
          · have e1 : q = k := (ky_inj hq).symm
            subst e1
            rw [more_same]
            exact ⟨by simp, own_setBlock hown hw2 (map_not_cells _ _)⟩
        · intro q hq
          by_cases e1 : q = k
          · subst e1
            exact ⟨⟨Value.int .i64 q, v', clock⟩, by simp, rfl⟩
          · rw [more_other f k q x e1] at hq
            obtain ⟨e, he, hk⟩ := M.has q hq
            exact ⟨e, by simp [he], hk⟩
        · have hnew : ∀ e ∈ es.toList, e.key ≠ Value.int .i64 k ∧ e.val.ownBlock ≠ v'.ownBlock := by
            intro e he
            obtain ⟨q, -, hq⟩ := M.keys e he
            obtain ⟨r1, r2⟩ := M.rows e he q hq
            obtain ⟨g, hg, hlt⟩ := own_some r2 r1
            refine ⟨h2 e he, ?_⟩
            rcases hblk with ⟨g', -, h⟩ | ⟨g', h, hge⟩
            · cases h
            · rw [hg, h]
              intro h4
              have := Option.some.inj h4
              omega
          intro i j a c ha hc hij
          rw [Array.toList_push] at ha hc
          by_cases hi : i < es.toList.length
          · rw [List.getElem?_append_left hi] at ha
            by_cases hj : j < es.toList.length
            · rw [List.getElem?_append_left hj] at hc
              exact M.apart i j a c ha hc hij
            · rw [List.getElem?_append_right (by omega)] at hc
              have : c = ⟨Value.int .i64 k, v', clock⟩ := by
                have := List.mem_of_getElem? hc
                simpa using this
              subst this
              exact hnew a (List.mem_of_getElem? ha)
          · rw [List.getElem?_append_right (by omega)] at ha
            have e1 : a = ⟨Value.int .i64 k, v', clock⟩ := by
              have := List.mem_of_getElem? ha
              simpa using this
            have hi2 : i = es.toList.length := by
              have h5 := (List.getElem?_eq_some_iff.1 ha).1
              rw [List.length_singleton] at h5
              omega
            by_cases hj : j < es.toList.length
            · rw [List.getElem?_append_left hj] at hc
              subst e1
              obtain ⟨n1, n2⟩ := hnew c (List.mem_of_getElem? hc)
              exact ⟨Ne.symm n1, Ne.symm n2⟩
            · rw [List.getElem?_append_right (by omega)] at hc
              have h5 := (List.getElem?_eq_some_iff.1 hc).1
              rw [List.length_singleton] at h5
              omega
  · have hj : es[j]? = some e0 := by simpa using h2
    have he0 : e0 ∈ es.toList := List.mem_of_getElem? h2
    obtain ⟨r1, r2⟩ := M.rows e0 he0 k h3
    refine ⟨e0.val, fun w1 hb1 => ?_, r2, ?_⟩
    · simp [Instr.lookup, run_underlying Try.underlying62, MapKept.run_getObj_map hb1, keyLaw.check w1 _ hl, h1, Result.andThen]
    · intro w2 v' x hw2 hown hblk hkeep
      have hkey : ({ e0 with key := Value.int .i64 k, val := v' } : MapEntry) = { e0 with val := v' } := by rw [← h3]
      have hset : (es.modify j (fun e => { e with key := Value.int .i64 k, val := v' })).toList = es.toList.set j { e0 with val := v' } := by
        rw [Array.toList_modify, Go.ChangeMaps.modify_eq_set _ _ _ _ h2, hkey]
      have hjl : j < es.toList.length := (List.getElem?_eq_some_iff.1 h2).1
      have hat : ∀ (i : Nat) (a : MapEntry), (es.modify j (fun e => { e with key := Value.int .i64 k, val := v' })).toList[i]? = some a → (i = j ∧ a = { e0 with val := v' }) ∨ (i ≠ j ∧ es.toList[i]? = some a) := by
        intro i a ha
        rw [hset, List.getElem?_set] at ha
        by_cases e1 : j = i
        · subst e1
          rw [if_pos rfl, if_pos hjl] at ha
          exact Or.inl ⟨rfl, (Option.some.inj ha).symm⟩
        · rw [if_neg e1] at ha
          exact Or.inr ⟨Ne.symm e1, ha⟩
      have hmem : ∀ a, a ∈ (es.modify j (fun e => { e with key := Value.int .i64 k, val := v' })).toList → a = { e0 with val := v' } ∨ ∃ i, i ≠ j ∧ es.toList[i]? = some a := by
        intro a ha
        obtain ⟨i, hi⟩ := List.getElem?_of_mem ha
        rcases hat i a hi with ⟨-, h⟩ | ⟨h, h'⟩
        · exact Or.inl h
        · exact Or.inr ⟨i, h, h'⟩
      have hrow : ∀ i a, i ≠ j → es.toList[i]? = some a → ∀ q, a.key = .int .i64 q → q ≠ k ∧ f q ≠ [] ∧ w2.ownsRow B 76 6 a.val (f q).length (hcells (f q)) := by
        intro i a hij ha q hq
        obtain ⟨s1, s2⟩ := M.rows a (List.mem_of_getElem? ha) q hq
        obtain ⟨n1, n2⟩ := M.apart i j a e0 ha h2 hij
        exact ⟨fun e1 => n1 (by rw [hq, h3, e1]), s1, hkeep _ _ _ s2 n2⟩
      refine ⟨es.modify j (fun e => { e with key := Value.int .i64 k, val := v' }), clock, ?_, ?_⟩
      · simp [Instr.mapUpdate, run_underlying Try.underlying62, MapKept.run_getObj_map hw2, keyLaw.check w2 false hl, h1, hj, h3, keyLaw.stays w2 hl, MapKept.run_setObj_map _ hw2, Result.andThen, setBlock]
      · refine ⟨(MapKept.heap_set hw2).1, ?_, ?_, ?_, ?_, MapKept.stamped_modify M.st j _ (fun _ _ => rfl) (fun e he h => by rw [hj] at h; cases h; exact h3.symm)⟩
        · intro a ha
          rcases hmem a ha with rfl | ⟨i, -, hi⟩
          · exact ⟨k, hk, h3⟩
          · exact M.keys a (List.mem_of_getElem? hi)
        · intro a ha q hq
          rcases hmem a ha with rfl | ⟨i, hij, hi⟩
          · have e1 : q = k := ky_inj (by rw [← hq]; exact h3)
            subst e1
            rw [more_same]
            exact ⟨by simp, own_setBlock hown hw2 (map_not_cells _ _)⟩
          · obtain ⟨n1, n2, n3⟩ := hrow i a hij hi q hq
            rw [more_other f k q x n1]
            exact ⟨n2, own_setBlock n3 hw2 (map_not_cells _ _)⟩
        · intro q hq
          by_cases e1 : q = k
          · subst e1
            refine ⟨{ e0 with val := v' }, ?_, h3⟩
            rw [hset]
            exact List.mem_of_getElem? (i := j) (by rw [List.getElem?_set, if_pos rfl, if_pos hjl])
          · rw [more_other f k q x e1] at hq
            obtain ⟨a, ha, hk⟩ := M.has q hq
            obtain ⟨i, hi⟩ := List.getElem?_of_mem ha
            have hij : j ≠ i := by
              intro e2
              subst e2
              rw [h2] at hi
              have := Option.some.inj hi
              subst this
              exact e1 (ky_inj (by rw [← hk]; exact h3))
            refine ⟨a, ?_, hk⟩
            rw [hset]
            exact List.mem_of_getElem? (i := i) (by rw [List.getElem?_set, if_neg hij]; exact hi)
        · have hnew : ∀ i a, i ≠ j → es.toList[i]? = some a → a.key ≠ e0.key ∧ a.val.ownBlock ≠ v'.ownBlock := by
            intro i a hij ha
            obtain ⟨n1, n2⟩ := M.apart i j a e0 ha h2 hij
            refine ⟨n1, ?_⟩
            rcases hblk with ⟨g, g1, g2⟩ | ⟨g, g1, g2⟩
            · rw [g1, ← g2]
              exact n2
            · obtain ⟨q, -, hq⟩ := M.keys a (List.mem_of_getElem? ha)
              obtain ⟨s1, s2⟩ := M.rows a (List.mem_of_getElem? ha) q hq
              obtain ⟨g', hg', hlt⟩ := own_some s2 s1
              rw [hg', g1]
              intro h4
              have := Option.some.inj h4
              omega
          intro i1 i2 a c ha hc hne
          rcases hat i1 a ha with ⟨rfl, rfl⟩ | ⟨k1, ha'⟩
          · rcases hat i2 c hc with ⟨rfl, -⟩ | ⟨k2, hc'⟩
            · exact absurd rfl hne
            · obtain ⟨n1, n2⟩ := hnew i2 c k2 hc'
              exact ⟨Ne.symm n1, Ne.symm n2⟩
          · rcases hat i2 c hc with ⟨rfl, rfl⟩ | ⟨k2, hc'⟩
            · exact hnew i1 a k1 ha'
            · exact M.apart i1 i2 a c ha' hc' hne

end Em
end Rd
end Go.Proofs.Ytfoccmhmgdengaa

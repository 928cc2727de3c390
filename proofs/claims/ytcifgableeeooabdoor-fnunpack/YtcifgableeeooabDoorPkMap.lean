/- A map from three bytes to the places where they stand, each in a row of its own. -/
import Derived.Test.YtcifgableeeooabDoorPkTriple
import Derived.Maps.AppendAt
namespace Go.Proofs.YtcifgableeeooabDoor
namespace Pk
open Go.ChangeShapes Go.WideShapes Go.ChangeAt Go.RowKit
open Go.ChangeMaps (setBlock)
set_option linter.unusedSimpArgs false
set_option linter.unusedVariables false

/-- Block b is a map that has the places f k at each key k, in rows from block B on of which no two are one. -/
structure Mp (B b : Nat) (f : Key → List Nat) (es : Array MapEntry) (clock : Nat) (w : World) : Prop where
  blk : w.heap[b]? = some (.map es clock)
  born : ∀ e ∈ es.toList, e.born < clock
  nodup : (es.toList.map (·.born)).Nodup
  keys : ∀ e ∈ es.toList, ∃ k, e.key = kv k
  rows : ∀ e ∈ es.toList, ∀ k, e.key = kv k → f k ≠ [] ∧ w.ownsRow B 3 1 e.val (f k).length (icells (f k))
  has : ∀ k, f k ≠ [] → ∃ e ∈ es.toList, e.key = kv k
  apart : ∀ (i j : Nat) (x y : MapEntry), es.toList[i]? = some x → es.toList[j]? = some y → i ≠ j → x.key ≠ y.key ∧ x.val.ownBlock ≠ y.val.ownBlock

theorem mp_new (B : Nat) (w : World) : Mp B w.heap.size (fun _ => []) #[] 0 (w.alloc (.map #[] 0)) :=
  ⟨heap_new w _, by simp, by simp, by simp, by simp, fun k h => absurd rfl h, by intro i j x y h; simp at h⟩

/-- What keeps the blocks below a bound keeps a map all of whose blocks lie there. -/
theorem Mp.on {B b : Nat} {f : Key → List Nat} {es : Array MapEntry} {clock : Nat} {w w1 : World} (M : Mp B b f es clock w) (L : Below w.heap.size w w1) : Mp B b f es clock w1 :=
  ⟨kept L (lt_of M.blk) M.blk, M.born, M.nodup, M.keys, fun e he k hk => ⟨(M.rows e he k hk).1, own_below (M.rows e he k hk).2 L (Nat.le_refl _)⟩, M.has, M.apart⟩

theorem zero_ints (w : World) : (zeroValue 42).run Tryd.prog w = .ok (.slice none 0 0) w := by
  simp [go_sem, Tryd.zeroValue42]

/-- What is looked up. -/
theorem Mp.lookup {B b : Nat} {f : Key → List Nat} {es : Array MapEntry} {clock : Nat} {w : World} (M : Mp B b f es clock w) (k : Key) :
    ∃ v, (Instr.lookup 127 (.map (some b)) (kv k) false).run Tryd.prog w = .ok v w ∧ w.ownsRow B 3 1 v (f k).length (icells (f k)) := by
  obtain ⟨l, hl⟩ := kv_key k
  have hks : ∀ e ∈ es.toList, ∃ l, keyOf Tryd.prog 152 e.key = some l := by
    intro e he
    obtain ⟨k', hk'⟩ := M.keys e he
    rw [hk']
    exact kv_key k'
  rcases keyLaw.find w hl es.toList hks with ⟨h1, h2⟩ | ⟨j, e0, h1, h2, h3⟩
  · refine ⟨.slice none 0 0, ?_, ?_⟩
    · simp [Instr.lookup, run_underlying Tryd.underlying127, MapKept.run_getObj_map M.blk, keyLaw.check w _ hl, h1, zero_ints, Result.andThen]
    · have : f k = [] := by
        apply Classical.byContradiction
        intro hn
        obtain ⟨e, he, hk⟩ := M.has k hn
        exact h2 e he hk
      rw [this]
      exact World.ownsRow_nil _ _ _ _
  · refine ⟨e0.val, ?_, (M.rows e0 (List.mem_of_getElem? h2) k h3).2⟩
    simp [Instr.lookup, run_underlying Tryd.underlying127, MapKept.run_getObj_map M.blk, keyLaw.check w _ hl, h1, Result.andThen]

theorem own_setBlock {w : World} {b base e size : Nat} {o o' : Obj} {v : Value} {n : Nat} {xs : List Value} (h : w.ownsRow base e size v n xs) (hb : w.heap[b]? = some o) (ho : ∀ cs t fz, o ≠ .cells cs t fz) : (setBlock w b o').ownsRow base e size v n xs := by
  obtain ⟨h1, h2⟩ := h
  refine ⟨h1, ?_⟩
  rcases h2 with h2 | ⟨g, cap, cur, hv, hg, hh, hr⟩
  · exact Or.inl h2
  · refine Or.inr ⟨g, cap, cur, hv, hg, ?_, hr⟩
    have hne : g ≠ b := by
      intro e
      subst e
      rw [hb] at hh
      exact ho _ _ _ (Option.some.inj hh)
    show (w.heap.setIfInBounds b o')[g]? = _
    rw [(MapKept.heap_set (o' := o') hb).2 g hne]
    exact hh

theorem map_not_cells (es : Array MapEntry) (clock : Nat) : ∀ cs t fz, Obj.map es clock ≠ .cells cs t fz := by
  intro cs t fz h
  cases h

theorem own_some {w : World} {base e : Nat} {v : Value} {l : List Nat} (h : w.ownsRow base e 1 v l.length (icells l)) (hl : l ≠ []) : ∃ g, v.ownBlock = some g ∧ g < w.heap.size := by
  obtain ⟨g, cap, rfl, -, hg, -⟩ := own_at h 0 (by cases l with | nil => exact absurd rfl hl | cons a l => simp)
  exact ⟨g, rfl, hg⟩

/-- The places with one more at a key. -/
def more (f : Key → List Nat) (k : Key) (x : Nat) : Key → List Nat := fun q => if q = k then f k ++ [x] else f q

theorem more_same (f : Key → List Nat) (k : Key) (x : Nat) : more f k x k = f k ++ [x] := if_pos rfl
theorem more_other (f : Key → List Nat) (k q : Key) (x : Nat) (h : q ≠ k) : more f k x q = f q := if_neg h

/-- The entry at a key is had; what is then stored there. -/
theorem Mp.entry {B b : Nat} {f : Key → List Nat} {es : Array MapEntry} {clock : Nat} {w : World} (M : Mp B b f es clock w) (k : Key) :
    ∃ (v0 : Value) (st : Nat) (es1 : Array MapEntry) (clock1 : Nat), (Instr.mapEntry 127 (.map (some b)) (kv k)).run Tryd.prog w = .ok (.tuple #[v0, goInt st]) (setBlock w b (.map es1 clock1)) ∧
      (setBlock w b (.map es1 clock1)).ownsRow B 3 1 v0 (f k).length (icells (f k)) ∧
      ∀ (w2 : World) (v' : Value) (x : Nat), w2.heap[b]? = some (.map es1 clock1) → w2.ownsRow B 3 1 v' (f k ++ [x]).length (icells (f k ++ [x])) →
        ((∃ g, v'.ownBlock = some g ∧ v0.ownBlock = some g) ∨ ∃ g, v'.ownBlock = some g ∧ w.heap.size ≤ g) →
        (∀ u n xs, w.ownsRow B 3 1 u n xs → u.ownBlock ≠ v0.ownBlock → w2.ownsRow B 3 1 u n xs) →
        ∃ es' clock', (Instr.entryStore 127 (.map (some b)) (goInt st) v').run Tryd.prog w2 = .ok () (setBlock w2 b (.map es' clock')) ∧ Mp B b (more f k x) es' clock' (setBlock w2 b (.map es' clock')) := by
  obtain ⟨l, hl⟩ := kv_key k
  have hks : ∀ e ∈ es.toList, ∃ l, keyOf Tryd.prog 152 e.key = some l := by
    intro e he
    obtain ⟨k', hk'⟩ := M.keys e he
    rw [hk']
    exact kv_key k'
  rcases keyLaw.find w hl es.toList hks with ⟨h1, h2⟩ | ⟨j, e0, h1, h2, h3⟩
  · have hfk : f k = [] := by
      apply Classical.byContradiction
      intro hn
      obtain ⟨e, he, hk⟩ := M.has k hn
      exact h2 e he hk
    refine ⟨.slice none 0 0, clock, es.push ⟨kv k, .slice none 0 0, clock⟩, clock + 1, ?_, by rw [hfk]; exact World.ownsRow_nil _ _ _ _, ?_⟩
    · simp [Instr.mapEntry, run_underlying Tryd.underlying127, MapKept.run_getObj_map M.blk, keyLaw.check w false hl, h1, zero_ints, MapKept.run_setObj_map _ M.blk, Result.andThen, setBlock]
    · intro w2 v' x hw2 hown hblk hkeep
      have hnd : ((es.push ⟨kv k, .slice none 0 0, clock⟩).toList.map (·.born)).Nodup := by
        simp only [Array.toList_push, List.map_append, List.map_cons, List.map_nil]
        refine List.nodup_append.2 ⟨M.nodup, by simp, fun a ha c hc e1 => ?_⟩
        simp only [List.mem_singleton] at hc
        obtain ⟨x, hx, rfl⟩ := List.mem_map.1 ha
        have := M.born x hx
        omega
      refine ⟨es.push ⟨kv k, v', clock⟩, clock + 1, ?_, ?_⟩
      · have hidx : (es.push ⟨kv k, .slice none 0 0, clock⟩).findIdx? (fun e => ((e.born : Nat) : Int) == ((clock : Nat) : Int)) = some es.size := by
          rw [Go.WideElems.findIdx_arr]
          exact Go.WideElems.findIdx_born (l := (es.push ⟨kv k, .slice none 0 0, clock⟩).toList) (j := es.size) (e0 := ⟨kv k, .slice none 0 0, clock⟩) hnd (by simp)
        have hmod : (es.push ⟨kv k, .slice none 0 0, clock⟩).modify es.size (fun e => { e with val := v' }) = es.push ⟨kv k, v', clock⟩ := by
          apply Array.ext'
          rw [Array.toList_modify, Array.toList_push, Array.toList_push, ← Array.length_toList, Go.WideElems.modify_last]
        simp [Instr.entryStore, MapKept.run_getObj_map hw2, asInt, asIntOf, goInt, hidx, hmod, MapKept.run_setObj_map _ hw2, Result.andThen, setBlock]
      · have hrow : ∀ e ∈ es.toList, ∀ q, e.key = kv q → q ≠ k ∧ f q ≠ [] ∧ w2.ownsRow B 3 1 e.val (f q).length (icells (f q)) := by
          intro e he q hq
          obtain ⟨r1, r2⟩ := M.rows e he q hq
          obtain ⟨g, hg, -⟩ := own_some r2 r1
          refine ⟨fun e1 => h2 e he (by rw [hq, e1]), r1, hkeep _ _ _ r2 (by rw [hg]; simp [Value.ownBlock])⟩
        have hmem : ∀ e, e ∈ (es.push ⟨kv k, v', clock⟩).toList → e ∈ es.toList ∨ e = ⟨kv k, v', clock⟩ := by
          intro e he
          simpa using he
        refine ⟨(MapKept.heap_set hw2).1, ?_, ?_, ?_, ?_, ?_, ?_⟩
        · intro e he
          rcases hmem e he with h | rfl
          · have := M.born e h; omega
          · show clock < clock + 1; omega
        · simpa using hnd
        · intro e he
          rcases hmem e he with h | rfl
          · exact M.keys e h
          · exact ⟨k, rfl⟩
        · intro e he q hq
          rcases hmem e he with h | rfl
          · obtain ⟨n1, n2, n3⟩ := hrow e h q hq
            rw [more_other f k q x n1]
            exact ⟨n2, own_setBlock n3 hw2 (map_not_cells _ _)⟩
          · have e1 : q = k := (kv_inj hq).symm
            subst e1
            rw [more_same]
            exact ⟨by simp, own_setBlock hown hw2 (map_not_cells _ _)⟩
        · intro q hq
          by_cases e1 : q = k
          · subst e1
            exact ⟨⟨kv q, v', clock⟩, by simp, rfl⟩
          · rw [more_other f k q x e1] at hq
            obtain ⟨e, he, hk⟩ := M.has q hq
            exact ⟨e, by simp [he], hk⟩
        · have hnew : ∀ e ∈ es.toList, e.key ≠ kv k ∧ e.val.ownBlock ≠ v'.ownBlock := by
            intro e he
            obtain ⟨q, hq⟩ := M.keys e he
            obtain ⟨r1, r2⟩ := M.rows e he q hq
            obtain ⟨g, hg, hlt⟩ := own_some r2 r1
            refine ⟨h2 e he, ?_⟩
            rcases hblk with ⟨g', -, h⟩ | ⟨g', h, hge⟩
            · cases h
            · rw [hg, h]
              intro h4
              have := Option.some.inj h4
              omega
          intro i j a c ha hc hij
          rw [Array.toList_push] at ha hc
          by_cases hi : i < es.toList.length
          · rw [List.getElem?_append_left hi] at ha
            by_cases hj : j < es.toList.length
            · rw [List.getElem?_append_left hj] at hc
              exact M.apart i j a c ha hc hij
            · rw [List.getElem?_append_right (by omega)] at hc
              have : c = ⟨kv k, v', clock⟩ := by
                have := List.mem_of_getElem? hc
                simpa using this
              subst this
              exact hnew a (List.mem_of_getElem? ha)
          · rw [List.getElem?_append_right (by omega)] at ha
            have e1 : a = ⟨kv k, v', clock⟩ := by
              have := List.mem_of_getElem? ha
              simpa using this
            have hi2 : i = es.toList.length := by
              have h5 := (List.getElem?_eq_some_iff.1 ha).1
              rw [List.length_singleton] at h5
              omega
            by_cases hj : j < es.toList.length
            · rw [List.getElem?_append_left hj] at hc
              subst e1
              obtain ⟨n1, n2⟩ := hnew c (List.mem_of_getElem? hc)
              exact ⟨Ne.symm n1, Ne.symm n2⟩
            · rw [List.getElem?_append_right (by omega)] at hc
              have h5 := (List.getElem?_eq_some_iff.1 hc).1
              rw [List.length_singleton] at h5
              omega
  · have hj : es[j]? = some e0 := by simpa using h2
    have hsame : es.modify j (fun e => { e with key := kv k }) = es := by
      apply Array.ext'
      rw [Array.toList_modify, Go.ChangeMaps.modify_eq_set _ _ _ _ h2]
      have : ({ e0 with key := kv k } : MapEntry) = e0 := by rw [← h3]
      rw [this]
      exact Go.WideElems.set_self _ _ _ h2
    have he0 : e0 ∈ es.toList := List.mem_of_getElem? h2
    obtain ⟨r1, r2⟩ := M.rows e0 he0 k h3
    refine ⟨e0.val, e0.born, es, clock, ?_, own_setBlock r2 M.blk (map_not_cells _ _), ?_⟩
    · simp [Instr.mapEntry, run_underlying Tryd.underlying127, MapKept.run_getObj_map M.blk, keyLaw.check w false hl, h1, hj, h3, keyLaw.stays w hl, hsame, MapKept.run_setObj_map _ M.blk, Result.andThen, setBlock]
    · intro w2 v' x hw2 hown hblk hkeep
      have hset : (es.modify j (fun e => { e with val := v' })).toList = es.toList.set j { e0 with val := v' } := by
        rw [Array.toList_modify, Go.ChangeMaps.modify_eq_set _ _ _ _ h2]
      have hjl : j < es.toList.length := (List.getElem?_eq_some_iff.1 h2).1
      have hat : ∀ (i : Nat) (a : MapEntry), (es.modify j (fun e => { e with val := v' })).toList[i]? = some a → (i = j ∧ a = { e0 with val := v' }) ∨ (i ≠ j ∧ es.toList[i]? = some a) := by
        intro i a ha
        rw [hset, List.getElem?_set] at ha
        by_cases e1 : j = i
        · subst e1
          rw [if_pos rfl, if_pos hjl] at ha
          exact Or.inl ⟨rfl, (Option.some.inj ha).symm⟩
        · rw [if_neg e1] at ha
          exact Or.inr ⟨Ne.symm e1, ha⟩
      have hmem : ∀ a, a ∈ (es.modify j (fun e => { e with val := v' })).toList → a = { e0 with val := v' } ∨ ∃ i, i ≠ j ∧ es.toList[i]? = some a := by
        intro a ha
        obtain ⟨i, hi⟩ := List.getElem?_of_mem ha
        rcases hat i a hi with ⟨-, h⟩ | ⟨h, h'⟩
        · exact Or.inl h
        · exact Or.inr ⟨i, h, h'⟩
      have hrow : ∀ i a, i ≠ j → es.toList[i]? = some a → ∀ q, a.key = kv q → q ≠ k ∧ f q ≠ [] ∧ w2.ownsRow B 3 1 a.val (f q).length (icells (f q)) := by
        intro i a hij ha q hq
        obtain ⟨s1, s2⟩ := M.rows a (List.mem_of_getElem? ha) q hq
        obtain ⟨n1, n2⟩ := M.apart i j a e0 ha h2 hij
        exact ⟨fun e1 => n1 (by rw [hq, h3, e1]), s1, hkeep _ _ _ s2 n2⟩
      refine ⟨es.modify j (fun e => { e with val := v' }), clock, ?_, ?_⟩
      · have hidx : es.findIdx? (fun e => ((e.born : Nat) : Int) == ((e0.born : Nat) : Int)) = some j := by
          rw [Go.WideElems.findIdx_arr]
          exact Go.WideElems.findIdx_born M.nodup h2
        simp [Instr.entryStore, MapKept.run_getObj_map hw2, asInt, asIntOf, goInt, hidx, MapKept.run_setObj_map _ hw2, Result.andThen, setBlock]
      · refine ⟨(MapKept.heap_set hw2).1, ?_, ?_, ?_, ?_, ?_, ?_⟩
        · intro a ha
          rcases hmem a ha with rfl | ⟨i, -, hi⟩
          · exact M.born e0 he0
          · exact M.born a (List.mem_of_getElem? hi)
        · have : (es.modify j (fun e => { e with val := v' })).toList.map (·.born) = es.toList.map (·.born) := by
            rw [hset, List.map_set]
            exact Go.WideElems.set_self _ _ _ (by rw [List.getElem?_map, h2]; rfl)
          rw [this]
          exact M.nodup
        · intro a ha
          rcases hmem a ha with rfl | ⟨i, -, hi⟩
          · exact ⟨k, h3⟩
          · exact M.keys a (List.mem_of_getElem? hi)
        · intro a ha q hq
          rcases hmem a ha with rfl | ⟨i, hij, hi⟩
          · have e1 : q = k := kv_inj (by rw [← hq]; exact h3)
            subst e1
            rw [more_same]
            exact ⟨by simp, own_setBlock hown hw2 (map_not_cells _ _)⟩
          · obtain ⟨n1, n2, n3⟩ := hrow i a hij hi q hq
            rw [more_other f k q x n1]
            exact ⟨n2, own_setBlock n3 hw2 (map_not_cells _ _)⟩
        · intro q hq
          by_cases e1 : q = k
          · subst e1
            refine ⟨{ e0 with val := v' }, ?_, h3⟩
            rw [hset]
            exact List.mem_of_getElem? (i := j) (by rw [List.getElem?_set, if_pos rfl, if_pos hjl])
          · rw [more_other f k q x e1] at hq
            obtain ⟨a, ha, hk⟩ := M.has q hq
            obtain ⟨i, hi⟩ := List.getElem?_of_mem ha
            have hij : j ≠ i := by
              intro e2
              subst e2
              rw [h2] at hi
              have := Option.some.inj hi
              subst this
              exact e1 (kv_inj (by rw [← hk]; exact h3))
            refine ⟨a, ?_, hk⟩
            rw [hset]
            exact List.mem_of_getElem? (i := i) (by rw [List.getElem?_set, if_neg hij]; exact hi)
        · have hnew : ∀ i a, i ≠ j → es.toList[i]? = some a → a.key ≠ e0.key ∧ a.val.ownBlock ≠ v'.ownBlock := by
            intro i a hij ha
            obtain ⟨n1, n2⟩ := M.apart i j a e0 ha h2 hij
            refine ⟨n1, ?_⟩
            rcases hblk with ⟨g, g1, g2⟩ | ⟨g, g1, g2⟩
            · rw [g1, ← g2]
              exact n2
            · obtain ⟨q, hq⟩ := M.keys a (List.mem_of_getElem? ha)
              obtain ⟨s1, s2⟩ := M.rows a (List.mem_of_getElem? ha) q hq
              obtain ⟨g', hg', hlt⟩ := own_some s2 s1
              rw [hg', g1]
              intro h4
              have := Option.some.inj h4
              omega
          intro i1 i2 a c ha hc hne
          rcases hat i1 a ha with ⟨rfl, rfl⟩ | ⟨k1, ha'⟩
          · rcases hat i2 c hc with ⟨rfl, -⟩ | ⟨k2, hc'⟩
            · exact absurd rfl hne
            · obtain ⟨n1, n2⟩ := hnew i2 c k2 hc'
              exact ⟨Ne.symm n1, Ne.symm n2⟩
          · rcases hat i2 c hc with ⟨rfl, rfl⟩ | ⟨k2, hc'⟩
            · exact hnew i1 a k1 ha'
            · exact M.apart i1 i2 a c ha' hc' hne

end Pk
end Go.Proofs.YtcifgableeeooabDoor

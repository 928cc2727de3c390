/- slices.Sort and slices.Compact over numbers in a row of one's own, by the library's contracts. -/
import Derived.Test.YtbmfhdlbbaabgaaCeDbl
import Derived.Test.YtbmfhdlbbaabgaaCeCp
import Derived.Test.YtbmfhdlbbaabgaaShelf
namespace Go.Proofs.Ytbmfhdlbbaabgaa
namespace Hn
open Go.ChangeShapes Go.WideShapes Go.ChangeAt Go.RowKit Go.Joins
open Go.Sort Go.Lib
open Pk (lt_of cell_at frozen_at)
set_option linter.unusedSimpArgs false
set_option linter.unusedVariables false

theorem compact_step (zs : List Int) (hs : zs.Pairwise (· ≤ ·)) : ∀ m, m ≤ zs.length → Asc (compactUpTo zs.toArray m) ∧ (∀ t, t ∈ compactUpTo zs.toArray m ↔ ∃ j, ∃ h : j < zs.length, j < m ∧ zs[j] = t) := by
  intro m
  induction m with
  | zero => intro _; simp [compactUpTo]
  | succ m ih =>
    intro hm
    obtain ⟨i1, i2⟩ := ih (by omega)
    have hml : m < zs.length := by omega
    have hg : zs.toArray[m]! = zs[m] := by simp [hml]
    rw [compactUpTo_succ, hg]
    by_cases hk : keeps zs.toArray m = true
    · rw [if_pos hk]
      refine ⟨?_, fun t => ?_⟩
      · refine List.pairwise_append.2 ⟨i1, List.pairwise_singleton .., fun a ha b hb => ?_⟩
        rw [List.mem_singleton] at hb
        subst hb
        obtain ⟨j, hj, hjm, rfl⟩ := (i2 a).1 ha
        have h1 : zs[j] ≤ zs[m - 1]'(by omega) := by
          by_cases e : j = m - 1
          · subst e; exact Int.le_refl _
          · exact List.pairwise_iff_getElem.1 hs j (m - 1) hj (by omega) (by omega)
        have h2 : zs[m - 1]'(by omega) ≤ zs[m] := List.pairwise_iff_getElem.1 hs (m - 1) m (by omega) hml (by omega)
        have h3 : zs[m] ≠ zs[m - 1]'(by omega) := by
          intro e
          have : keeps zs.toArray m = false := keeps_neg (by omega) (by rw [hg, e]; simp [show m - 1 < zs.length by omega])
          rw [this] at hk
          cases hk
        omega
      · rw [List.mem_append, List.mem_singleton, i2]
        constructor
        · rintro (⟨j, hj, h1, h2⟩ | rfl)
          · exact ⟨j, hj, by omega, h2⟩
          · exact ⟨m, hml, by omega, rfl⟩
        · rintro ⟨j, hj, h1, h2⟩
          by_cases e : j = m
          · subst e; exact Or.inr h2.symm
          · exact Or.inl ⟨j, hj, by omega, h2⟩
    · rw [if_neg hk, List.append_nil]
      refine ⟨i1, fun t => ?_⟩
      rw [i2]
      constructor
      · rintro ⟨j, hj, h1, h2⟩
        exact ⟨j, hj, by omega, h2⟩
      · rintro ⟨j, hj, h1, h2⟩
        by_cases e : j = m
        · subst e
          have hj0 : 0 < j := by
            apply Classical.byContradiction
            intro h
            have : j = 0 := by omega
            subst this
            exact hk (keeps_lt_one _ 0 (by omega))
          have he : zs[j] = zs[j - 1]'(by omega) := by
            apply Classical.byContradiction
            intro h
            exact hk (keeps_pos (by rw [hg]; simp [show j - 1 < zs.length by omega]; exact h))
          exact ⟨j - 1, by omega, by omega, by rw [← he]; exact h2⟩
        · exact ⟨j, hj, by omega, h2⟩

theorem compact_sorted {D : List Int} : Asc (Lib.compact (D.mergeSort fun x y => decide (x ≤ y))) ∧ ∀ t, t ∈ Lib.compact (D.mergeSort fun x y => decide (x ≤ y)) ↔ t ∈ D := by
  have hs : (D.mergeSort fun x y => decide (x ≤ y)).Pairwise (· ≤ ·) := by
    have := List.pairwise_mergeSort (le := fun x y : Int => decide (x ≤ y)) (fun a b c h1 h2 => by simp at *; omega) (fun a b => by simp; omega) D
    exact this.imp fun h => by simpa using h
  obtain ⟨h1, h2⟩ := compact_step _ hs _ (Nat.le_refl _)
  refine ⟨h1, fun t => ?_⟩
  have h3 := h2 t
  have h4 : t ∈ (D.mergeSort fun x y => decide (x ≤ y)) ↔ t ∈ D := (List.mergeSort_perm D _).mem_iff
  rw [← h4]
  refine h3.trans ?_
  constructor
  · rintro ⟨j, hj, -, rfl⟩; exact List.getElem_mem hj
  · intro h
    obtain ⟨j, hj, rfl⟩ := List.getElem_of_mem h
    exact ⟨j, hj, hj, rfl⟩

theorem compact_len {D : List Int} : (Lib.compact D).length ≤ D.length := by
  have : ∀ m, (compactUpTo D.toArray m).length ≤ m := by
    intro m
    induction m with
    | zero => simp [compactUpTo]
    | succ m ih =>
      rw [compactUpTo_succ]
      split <;> simp <;> omega
  exact this D.length

theorem put_heap {w : World} {g n : Nat} {cur : Array Value} {e : TypeId} {f : Nat × Nat} (d : List Int) (h : w.heap[g]? = some (.cells cur e f)) (hd : d.length ≤ cur.size) :
    ∃ cur' : Array Value, (putRow (Value.int .i64) (Sort.ahead w n) g 0 d.toArray).heap[g]? = some (.cells cur' e f) ∧ cur'.size = cur.size ∧ (∀ j, j < d.length → cur'[j]? = (icells d)[j]?) := by
  refine ⟨putCells (Value.int .i64) 0 d.toArray cur, ?_, by simp [putCells], fun j hj => ?_⟩
  · unfold putRow mapBlock
    show (w.heap.modify g _)[g]? = _
    rw [Array.getElem?_modify, if_pos rfl, h]
    rfl
  · unfold putCells
    rw [Array.getElem?_mapIdx, Array.getElem?_eq_getElem (by omega)]
    simp [hj, icells]

theorem put_other {w : World} {g n k : Nat} (d : List Int) (hk : k ≠ g) : (putRow (Value.int .i64) (Sort.ahead w n) g 0 d.toArray).heap[k]? = w.heap[k]? := by
  unfold putRow mapBlock
  show (w.heap.modify g _)[k]? = _
  rw [Array.getElem?_modify, if_neg (fun h => hk h.symm)]

theorem put_size {w : World} {g n : Nat} (d : List Int) : (putRow (Value.int .i64) (Sort.ahead w n) g 0 d.toArray).heap.size = w.heap.size := by
  unfold putRow mapBlock
  show (w.heap.modify g _).size = _
  rw [Array.size_modify]

theorem own_put {w : World} {lo g n m cap : Nat} {cur : Array Value} {e : TypeId} {d : List Int} (hm : m ≤ d.length) (hg : lo ≤ g) (h : w.heap[g]? = some (.cells cur e (0, 0))) (h1 : d.length ≤ cap) (h2 : cap ≤ maxLen) (h3 : cur.size = cap) (xs : List Int) (hx : xs.length = m) (hp : d.take m = xs) : (putRow (Value.int .i64) (Sort.ahead w n) g 0 d.toArray).ownsRow lo e 1 (.slice (some ⟨g, 0, none⟩) m cap) m (icells xs) := by
  obtain ⟨cur', k1, k2, k3⟩ := put_heap (n := n) d h (by omega)
  refine ⟨by simp [icells, hx], Or.inr ⟨g, cap, cur', rfl, hg, k1, by omega, h2, by omega, ?_⟩⟩
  refine List.ext_getElem? fun j => ?_
  rw [Nat.mul_one, List.getElem?_take]
  by_cases hj : j < m
  · rw [if_pos hj, Array.getElem?_toList, k3 j (by omega), ← hp]
    unfold icells
    rw [List.map_take, List.getElem?_take, if_pos hj]
  · rw [if_neg hj, List.getElem?_eq_none (by simp [icells, hx]; omega)]

theorem holds_of {w : World} {g cap : Nat} {cur : Array Value} {e : TypeId} {D : List Int} (h : w.heap[g]? = some (.cells cur e (0, 0))) (htk : cur.toList.take (D.length * 1) = icells D) : Holds (Value.int .i64) w g 0 D.toArray := by
  intro j hj
  simp at hj
  refine ⟨?_, frozen_at h _⟩
  rw [Nat.zero_add, cell_at h, ← Array.getElem?_toList]
  have : (cur.toList.take (D.length * 1))[j]? = cur.toList[j]? := by rw [List.getElem?_take, if_pos (by omega)]
  rw [← this, htk]
  simp [icells, hj]

theorem sort_own (lo : Nat) (D : List Int) (v : Value) (w : World) (hD : D.length ≤ 1048577) (O : w.ownsRow lo 3 1 v D.length (icells D)) :
    Calls Try.prog 49 #[v] w fun e w' => e = .returned (.tuple #[]) ∧ w'.ownsRow lo 3 1 v D.length (icells (D.mergeSort fun x y => decide (x ≤ y))) ∧ Below lo w w' := by
  obtain ⟨hxl, h⟩ := O
  by_cases h0 : D = []
  · subst h0
    have e0 : (([] : List Int).mergeSort fun x y => decide (x ≤ y)) = [] := by simp
    rw [e0]
    rcases h with ⟨rfl, hn⟩ | ⟨g, cap, cur, rfl, hr⟩
    · refine Calls.mono (Try.slices_Sort_int_none none 0 w) ?_
      rintro e w1 ⟨rfl, rfl⟩
      exact ⟨rfl, ⟨hxl, Or.inl ⟨rfl, rfl⟩⟩, Below.refl _ _⟩
    · refine Calls.mono (Try.slices_Sort_int_none (some ⟨g, 0, none⟩) cap w) ?_
      rintro e w1 ⟨rfl, rfl⟩
      exact ⟨rfl, ⟨hxl, Or.inr ⟨g, cap, cur, rfl, hr⟩⟩, Below.refl _ _⟩
  · have hpos : 0 < D.length := by cases D with | nil => exact absurd rfl h0 | cons a t => simp
    rcases h with ⟨rfl, hn⟩ | ⟨g, cap, cur, rfl, hg, hh, hnc, hcm, hcs, htk⟩
    · omega
    · have hgw := lt_of hh
      refine Calls.mono (Try.slices_Sort_int g 0 cap D w (holds_of (cap := cap) hh htk) hgw (by omega)) ?_
      rintro e w1 ⟨rfl, n, os, rfl⟩
      have hl : (D.mergeSort fun x y => decide (x ≤ y)).length = D.length := List.length_mergeSort ..
      have O2 := own_put (w := w) (n := n) (m := D.length) (d := D.mergeSort fun x y => decide (x ≤ y)) (by omega) hg hh (by omega) hcm (by omega) (D.mergeSort fun x y => decide (x ≤ y)) (by omega) (by rw [← hl, List.take_length])
      refine ⟨rfl, ?_, ?_⟩
      · obtain ⟨a1, a2⟩ := O2
        refine ⟨a1, ?_⟩
        rcases a2 with ⟨b1, -⟩ | ⟨g', cap', cur', b1, b2, b3, b4⟩
        · cases b1
        · simp only [Value.slice.injEq, Option.some.injEq, Addr.mk.injEq] at b1
          obtain ⟨⟨rfl, -⟩, -, rfl⟩ := b1
          exact Or.inr ⟨g, cap, cur', rfl, b2, by rw [heap_grow_old _ _ (by rw [put_size]; exact hgw)]; exact b3, b4⟩
      · refine ⟨rfl, rfl, rfl, by rw [size_grow, put_size]; omega, fun k hk => ?_⟩
        rw [heap_grow_old _ _ (by rw [put_size]; omega), put_other _ (by omega)]
  
theorem compact_own (lo : Nat) (D : List Int) (v : Value) (w : World) (hD : D.length ≤ 1048577) (O : w.ownsRow lo 3 1 v D.length (icells D)) :
    Calls Try.prog 50 #[v] w fun e w' => ∃ v', e = .returned v' ∧ w'.ownsRow lo 3 1 v' (Lib.compact D).length (icells (Lib.compact D)) ∧ Below lo w w' := by
  obtain ⟨hxl, h⟩ := O
  by_cases h0 : D = []
  · subst h0
    have e0 : Lib.compact ([] : List Int) = [] := rfl
    rw [e0]
    rcases h with ⟨rfl, hn⟩ | ⟨g, cap, cur, rfl, hr⟩
    · refine Calls.mono (Try.slices_Compact_int_empty none 0 w) ?_
      rintro e w1 ⟨rfl, rfl⟩
      exact ⟨_, rfl, ⟨hxl, Or.inl ⟨rfl, rfl⟩⟩, Below.refl _ _⟩
    · refine Calls.mono (Try.slices_Compact_int_empty (some ⟨g, 0, none⟩) cap w) ?_
      rintro e w1 ⟨rfl, rfl⟩
      exact ⟨_, rfl, ⟨hxl, Or.inr ⟨g, cap, cur, rfl, hr⟩⟩, Below.refl _ _⟩
  · have hpos : 0 < D.length := by cases D with | nil => exact absurd rfl h0 | cons a t => simp
    rcases h with ⟨rfl, hn⟩ | ⟨g, cap, cur, rfl, hg, hh, hnc, hcm, hcs, htk⟩
    · omega
    · have hgw := lt_of hh
      have hcl := compact_len (D := D)
      refine Calls.mono (Try.slices_Compact_int g 0 cap D w (holds_of (cap := cap) hh htk) (by omega) hnc) ?_
      rintro e w1 ⟨rfl, n, rfl⟩
      have hl : (Lib.compact D ++ List.replicate (D.length - (Lib.compact D).length) 0).length = D.length := by simp; omega
      have O2 := own_put (w := w) (n := n) (m := (Lib.compact D).length) (d := Lib.compact D ++ List.replicate (D.length - (Lib.compact D).length) 0) (by omega) hg hh (by omega) hcm (by omega) (Lib.compact D) rfl (by rw [List.take_append_of_le_length (Nat.le_refl _), List.take_length])
      refine ⟨_, rfl, O2, ⟨rfl, rfl, rfl, by rw [put_size]; omega, fun k hk => put_other _ (by omega)⟩⟩

end Hn
end Go.Proofs.Ytbmfhdlbbaabgaa

/- slices.SortFunc of controls in a row of one's own, by the library's contract. -/
import Derived.Test.YtbmfhdlbbaabgaaCeCmp
import Derived.Test.YtbmfhdlbbaabgaaCeCp
import Derived.Test.YtbmfhdlbbaabgaaShelfC
namespace Go.Proofs.Ytbmfhdlbbaabgaa
namespace Hn
open Go.ChangeShapes Go.WideShapes Go.ChangeAt Go.RowKit Go.Joins
open Go.Sort Go.Lib Go.Shelf
open Pk (lt_of cell_at frozen_at new_below join_below heap_new heap_old kept)
set_option linter.unusedSimpArgs false
set_option linter.unusedVariables false

instance : Inhabited Ct := ⟨⟨0, 0, 0, 0, 0, 0⟩⟩

set_option maxHeartbeats 4000000 in
theorem cmpC_is (a b : Ct) (w : World) : Calls Try.prog 57 #[lgV a, lgV b] w fun e w' => e = .returned (.int .i64 (cmpC a b)) ∧ w' = (((w.alloc (.cells #[.int .i64 a.dv, .int .i64 a.no, .int .i64 a.tk, .int .i64 a.tr, .int .i64 a.dy, .int .i64 a.sa] 37)).alloc (.cells #[.int .i64 b.dv, .int .i64 b.no, .int .i64 b.tk, .int .i64 b.tr, .int .i64 b.dy, .int .i64 b.sa] 37)).alloc (.cells #[.int .i64 (cmpI a.dv b.dv), .int .i64 (cmpI a.no b.no)] 3)).drew := by
  have HC : Hid (∀ x y : Int, ∀ W : World, _) := fun x y W => compare_val x y W
  have HO : Hid (∀ (x y : Int) (b cap : Nat) (W : World), W.cell? ⟨b, 0, none⟩ = some (.int .i64 x) → W.cell? ⟨b, 1, none⟩ = some (.int .i64 y) → _) := fun x y b cap W h k => or_val x y b cap W h k
  have HV : Hid (orI (cmpI a.dv b.dv) (cmpI a.no b.no) = cmpC a b) := rfl
  have h3 := (three_blocks w (.cells #[.int .i64 a.dv, .int .i64 a.no, .int .i64 a.tk, .int .i64 a.tr, .int .i64 a.dy, .int .i64 a.sa] 37) (.cells #[.int .i64 b.dv, .int .i64 b.no, .int .i64 b.tk, .int .i64 b.tr, .int .i64 b.dy, .int .i64 b.sa] 37) (.cells #[.int .i64 (cmpI a.dv b.dv), .int .i64 (cmpI a.no b.no)] 3)).2.2
  have k0 := drew_cell h3 0
  have k1 := drew_cell h3 1
  clear h3
  go_enter Try.func57, Try.ntmps57
  go_wp2
  go_region_held3 (fun w' => w'.cell? ⟨w.heap.size, 0, none⟩ = some (.int .i64 a.dv) ∧ w'.cell? ⟨w.heap.size, 1, none⟩ = some (.int .i64 a.no) ∧ w'.cell? ⟨w.heap.size + 1, 0, none⟩ = some (.int .i64 b.dv) ∧ w'.cell? ⟨w.heap.size + 1, 1, none⟩ = some (.int .i64 b.no)) (go_keep) (first
    | (go_at_call 69; (with_reducible refine (HC.out _ _ _).mono ?_); rintro e w1 ⟨rfl, rfl⟩)
    | (go_at_call 68; refine (HO.out (cmpI a.dv b.dv) (cmpI a.no b.no) _ _ _ ?_ ?_).mono ?_; (exact k0); (exact k1); rintro e w1 ⟨rfl, rfl⟩))
  all_goals
    go_wp2
    go_ret
    exact ⟨by rw [← HV.out] <;> rfl, rfl⟩

theorem lt_is (x y : Ct) : ltOf cmpC x y = ltC x y := by
  unfold ltOf
  have h := cmpC_lt x y
  cases hl : ltC x y
  · rw [hl] at h
    have : 0 ≤ cmpC x y := by simpa using h
    simp
    omega
  · rw [hl] at h
    have : ¬ 0 ≤ cmpC x y := by simpa using h
    simp
    omega

theorem lt_iff {x y : Ct} : ltC x y = true ↔ x.dv < y.dv ∨ (x.dv = y.dv ∧ x.no < y.no) := by
  unfold ltC
  simp

theorem lt_not {x y : Ct} : ltC x y = false ↔ ¬ (x.dv < y.dv ∨ (x.dv = y.dv ∧ x.no < y.no)) := by
  rw [← lt_iff]
  simp

theorem swoC : SWO (ltOf cmpC) where
  irrefl x := by rw [lt_is, lt_not]; omega
  trans x y z h1 h2 := by rw [lt_is, lt_iff] at *; omega
  ntrans x y z h1 h2 := by rw [lt_is, lt_not] at *; omega

theorem flat_is (D : List Ct) : flatK cc1 6 D.toArray = (ccells D).toArray := by
  apply Array.ext
  · simp [ccells_length]
  · intro t h1 h2
    have ht : t < D.length * 6 := by simpa using h1
    have hk : t / 6 < D.length := by omega
    have e := ccells_get D (t / 6) (t % 6) hk (by omega)
    rw [show t / 6 * 6 + t % 6 = t by omega] at e
    have h3 := get_flatK cc1 6 D.toArray t (by simpa using ht)
    rw [getElem!_pos _ t h1] at h3
    rw [h3]
    have h4 : D.toArray[t / 6]! = D[t / 6] := by simp [hk]
    rw [h4]
    have h5 : t % 6 < (cc1 D[t / 6]).length := by rw [cc1_length]; omega
    rw [getElem!_pos (cc1 D[t / 6]) (t % 6) h5]
    rw [List.getElem?_eq_getElem h5, List.getElem?_eq_getElem (by rw [ccells_length]; exact ht)] at e
    simpa using (Option.some.inj e).symm

theorem cmpLays (blk off size : Nat) (w : World) : CmpLays Try.prog 57 #[] cc1 6 cmpC blk off size w := by
  intro m os dk _ x y
  refine Calls.mono (cmpC_is x y _) ?_
  rintro e w1 ⟨rfl, rfl⟩
  refine ⟨rfl, 1, #[.cells #[.int .i64 x.dv, .int .i64 x.no, .int .i64 x.tk, .int .i64 x.tr, .int .i64 x.dy, .int .i64 x.sa] 37] ++ #[.cells #[.int .i64 y.dv, .int .i64 y.no, .int .i64 y.tk, .int .i64 y.tr, .int .i64 y.dy, .int .i64 y.sa] 37] ++ #[.cells #[.int .i64 (cmpI x.dv y.dv), .int .i64 (cmpI x.no y.no)] 3], ?_⟩
  rw [alloc_eq_grow, alloc_eq_grow, alloc_eq_grow, grow_grow, grow_grow]
  rfl

theorem putV_heap {w : World} {g n : Nat} {cur : Array Value} {e : TypeId} {f : Nat × Nat} (d : List Value) (h : w.heap[g]? = some (.cells cur e f)) (hd : d.length ≤ cur.size) :
    ∃ cur' : Array Value, (putRow id (Sort.ahead w n) g 0 d.toArray).heap[g]? = some (.cells cur' e f) ∧ cur'.size = cur.size ∧ (∀ j, j < d.length → cur'[j]? = d[j]?) := by
  refine ⟨putCells id 0 d.toArray cur, ?_, by simp [putCells], fun j hj => ?_⟩
  · unfold putRow mapBlock
    show (w.heap.modify g _)[g]? = _
    rw [Array.getElem?_modify, if_pos rfl, h]
    rfl
  · unfold putCells
    rw [Array.getElem?_mapIdx, Array.getElem?_eq_getElem (by omega)]
    simp [hj]

theorem putV_other {w : World} {g n k : Nat} (d : Array Value) (hk : k ≠ g) : (putRow id (Sort.ahead w n) g 0 d).heap[k]? = w.heap[k]? := by
  unfold putRow mapBlock
  show (w.heap.modify g _)[k]? = _
  rw [Array.getElem?_modify, if_neg (fun h => hk h.symm)]

theorem putV_size {w : World} {g n : Nat} (d : Array Value) : (putRow id (Sort.ahead w n) g 0 d).heap.size = w.heap.size := by
  unfold putRow mapBlock
  show (w.heap.modify g _).size = _
  rw [Array.size_modify]

/-- Sorted by device and number. -/
def Srt (l : List Ct) : Prop := ∀ i j (hi : i < l.length) (hj : j < l.length), i < j → ltC l[j] l[i] = false

theorem sortC_own (lo : Nat) (D : List Ct) (v : Value) (w : World) (hD : D.length ≤ 4194304) (O : w.ownsRow lo 37 6 v D.length (ccells D)) :
    Calls Try.prog 66 #[v, .func (.func 57) #[] #[]] w fun e w' => e = .returned (.tuple #[]) ∧ ∃ D' : List Ct, D'.Perm D ∧ Srt D' ∧ w'.ownsRow lo 37 6 v D.length (ccells D') ∧ Below lo w w' := by
  have eg : ∀ args w, (callFunc 57 args).run Try.prog w = .ok (.enter 57 args) w := enters_of Try.func57 (by kernel_rfl) rfl
  obtain ⟨hxl, h⟩ := O
  by_cases h0 : D = []
  · subst h0
    rcases h with ⟨rfl, hn⟩ | ⟨g, cap, cur, rfl, hr⟩
    · refine Calls.mono (AnyF.slices_SortFunc_none Try.sortCt none 0 _ w) ?_
      rintro e w1 ⟨rfl, rfl⟩
      exact ⟨rfl, [], List.Perm.refl _, fun i j hi => by simp at hi, ⟨hxl, Or.inl ⟨rfl, rfl⟩⟩, Below.refl _ _⟩
    · refine Calls.mono (AnyF.slices_SortFunc_none Try.sortCt (some ⟨g, 0, none⟩) cap _ w) ?_
      rintro e w1 ⟨rfl, rfl⟩
      exact ⟨rfl, [], List.Perm.refl _, fun i j hi => by simp at hi, ⟨hxl, Or.inr ⟨g, cap, cur, rfl, hr⟩⟩, Below.refl _ _⟩
  · have hpos : 0 < D.length := by cases D with | nil => exact absurd rfl h0 | cons a t => simp
    rcases h with ⟨rfl, hn⟩ | ⟨g, cap, cur, rfl, hg, hh, hnc, hcm, hcs, htk⟩
    · omega
    · have hgw := lt_of hh
      have hH : HoldsK cc1 6 w g 0 D.toArray := by
        unfold HoldsK
        rw [flat_is]
        intro j hj
        have hj2 : j < (ccells D).length := by simpa using hj
        refine ⟨?_, frozen_at hh _⟩
        rw [Nat.zero_add, cell_at hh, ← Array.getElem?_toList]
        have : (cur.toList.take (D.length * 6))[j]? = cur.toList[j]? := by rw [List.getElem?_take, if_pos (by rw [← ccells_length]; exact hj2)]
        rw [← this, htk]
        simp [hj2]
      refine Calls.mono (AnyQ.slices_SortFunc Try.sortCt 6 Try.isAgg37 Try.sizeOf37 cc1 cc1_length (fun x v hv => by simp only [cc1, List.mem_cons, List.not_mem_nil, or_false] at hv; rcases hv with rfl | rfl | rfl | rfl | rfl | rfl <;> rfl) cmpC swoC 57 #[] g 0 cap D.toArray w eg (cmpLays g 0 _ w) hH hgw (by simp; omega)) ?_
      rintro e w1 ⟨rfl, d', n, os, hp, hs, rfl⟩
      obtain ⟨hp1, -, hp3⟩ := hp
      have hlen : d'.toList.length = D.length := by simpa using hp1
      have hperm : d'.toList.Perm D := by
        have e1 : d'.extract 0 D.toArray.size = d' := by rw [← hp1]; simp
        have e2 : D.toArray.extract 0 D.toArray.size = D.toArray := by simp
        rw [e1, e2] at hp3
        simpa using hp3
      refine ⟨rfl, d'.toList, hperm, ?_, ?_, ?_⟩
      · intro i j hi hj hij
        have h6 := hs i j (Nat.zero_le _) hij (by simp; omega)
        rw [lt_is] at h6
        have g1 : d'[i]! = d'.toList[i] := by rw [getElem!_pos d' i (by simpa using hi)]; simp
        have g2 : d'[j]! = d'.toList[j] := by rw [getElem!_pos d' j (by simpa using hj)]; simp
        rw [g1, g2] at h6
        exact h6
      · have hfl : flatK cc1 6 d' = (ccells d'.toList).toArray := by
          have := flat_is d'.toList
          simpa using this
        show (grow (putRowK cc1 6 (Sort.ahead w n) g 0 d') os).ownsRow _ _ _ _ _ _
        unfold putRowK
        rw [hfl]
        have hcl : (ccells d'.toList).length = D.length * 6 := by rw [ccells_length, hlen]
        obtain ⟨cur', k1, k2, k3⟩ := putV_heap (n := n) (ccells d'.toList) hh (by rw [hcl, hcs]; exact Nat.mul_le_mul_right 6 hnc)
        refine ⟨hcl, Or.inr ⟨g, cap, cur', rfl, hg, ?_, hnc, hcm, by rw [k2, hcs], ?_⟩⟩
        · rw [heap_grow_old _ _ (by rw [putV_size]; exact hgw)]
          exact k1
        · refine List.ext_getElem? fun j => ?_
          rw [List.getElem?_take]
          by_cases hj : j < D.length * 6
          · rw [if_pos hj, Array.getElem?_toList, k3 j (by omega)]
          · rw [if_neg hj, List.getElem?_eq_none (by omega)]
      · show Below lo w (grow (putRowK cc1 6 (Sort.ahead w n) g 0 d') os)
        unfold putRowK
        refine ⟨rfl, rfl, rfl, by rw [size_grow, putV_size]; omega, fun k hk => ?_⟩
        rw [heap_grow_old _ _ (by rw [putV_size]; omega), putV_other _ (by omega)]

end Hn
end Go.Proofs.Ytbmfhdlbbaabgaa

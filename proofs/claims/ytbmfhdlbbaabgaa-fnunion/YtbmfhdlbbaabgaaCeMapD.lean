/- A map from takings to devices. -/
import Derived.Test.YtbmfhdlbbaabgaaCeSort
import Derived.Test.YtbmfhdlbbaabgaaHnOpen
import Derived.BigRegion
import Derived.DeepKeys4
import Derived.WideKeyEntry
namespace Go.Proofs.Ytbmfhdlbbaabgaa
namespace Hn
open Go.ChangeShapes Go.WideShapes Go.ChangeAt Go.RowKit Go.Joins
open Pk (new_below join_below cell_at heap_new frozen_at lt_of kept heap_old Drawn info_of Room own_form own_below)
set_option linter.unusedSimpArgs false
set_option linter.unusedVariables false

open Go.ChangeMaps (setBlock)

/-- A key. -/
structure KyD where
  tk : Int
  tr : Int
  dy : Int
deriving DecidableEq

abbrev kyVD (k : KyD) : Value := .agg #[.int .i64 k.tk, .int .i64 k.tr, .int .i64 k.dy]

structure WfKD (k : KyD) : Prop where
  tk : WfI k.tk
  tr : WfI k.tr
  dy : WfI k.dy

theorem keyLawD : WideMaps.KeyLaw Try.prog 70 := deep_law_laid (m := 3) (by kernel_rfl) (by omega) (of_decide_eq_true (by kernel_rfl)) (by kernel_rfl) (by kernel_rfl)

theorem ky_injD {a b : KyD} (h : kyVD a = kyVD b) : a = b := by
  obtain ⟨a0, a1, a2⟩ := a
  obtain ⟨b0, b1, b2⟩ := b
  simp only [kyVD, Value.agg.injEq, Array.mk.injEq, List.cons.injEq, Value.int.injEq, true_and, and_true] at h
  obtain ⟨h0, h1, h2⟩ := h
  rw [h0, h1, h2]

theorem ky_keyD {k : KyD} (h : WfKD k) : ∃ l, keyOf Try.prog 70 (kyVD k) = some l := by
  obtain ⟨a0, a1, a2⟩ := k
  obtain ⟨w0, w1, w2⟩ := h
  have c4 : Try.prog.cellsOf 70 = 3 := by kernel_rfl
  have c1 : Try.prog.cellsOf 3 = 1 := by kernel_rfl
  have kl : ∀ d, Try.prog.keyLits (d + 2) 70 [.int .i64 a0, .int .i64 a1, .int .i64 a2] = some [.int .i64 a0, .int .i64 a1, .int .i64 a2] := by
    intro d
    simp [Program.keyLits, Try.underlying70, Try.underlying3, c4, c1, w0, w1, w2]
  unfold keyOf
  simp [go_sem, Try.underlying70]
  refine ⟨⟨by kernel_rfl, ?_⟩, _, _, kl _, rfl⟩
  simp [Value.formed, Try.underlying70, c4]

/-- Block b is a map that has f k at each key k. -/
structure MpD (b : Nat) (f : KyD → Option Int) (es : Array MapEntry) (clock : Nat) (w : World) : Prop where
  blk : w.heap[b]? = some (.map es clock)
  keys : ∀ e ∈ es.toList, ∃ k, WfKD k ∧ e.key = kyVD k
  vals : ∀ e ∈ es.toList, ∀ k, e.key = kyVD k → ∃ x, f k = some x ∧ e.val = .int .i64 x
  has : ∀ k, f k ≠ none → ∃ e ∈ es.toList, e.key = kyVD k
  apart : ∀ (i j : Nat) (x y : MapEntry), es.toList[i]? = some x → es.toList[j]? = some y → i ≠ j → x.key ≠ y.key

theorem mp_newD (w : World) : MpD w.heap.size (fun _ => none) #[] 0 (w.alloc (.map #[] 0)) :=
  ⟨heap_new w _, by simp, by simp, fun k h => absurd rfl h, by intro i j x y h; simp at h⟩

theorem MpD.on {b : Nat} {f : KyD → Option Int} {es : Array MapEntry} {clock : Nat} {w w1 : World} (M : MpD b f es clock w) (h : w1.heap[b]? = w.heap[b]?) : MpD b f es clock w1 := ⟨h.trans M.blk, M.keys, M.vals, M.has, M.apart⟩

def putD (f : KyD → Option Int) (k : KyD) (x : Int) : KyD → Option Int := fun q => if q = k then some x else f q

theorem MpD.find {b : Nat} {f : KyD → Option Int} {es : Array MapEntry} {clock : Nat} {w : World} (M : MpD b f es clock w) (k : KyD) (hk : WfKD k) :
    ((∀ w : World, (Instr.findKey 70 (kyVD k) es.toList).run Try.prog w = .ok none w) ∧ (∀ e ∈ es.toList, e.key ≠ kyVD k) ∧ f k = none) ∨ ∃ j e x, (∀ w : World, (Instr.findKey 70 (kyVD k) es.toList).run Try.prog w = .ok (some (j, e.val)) w) ∧ es.toList[j]? = some e ∧ e.key = kyVD k ∧ f k = some x ∧ e.val = .int .i64 x := by
  obtain ⟨l, hl⟩ := ky_keyD hk
  have hks : ∀ e ∈ es.toList, ∃ l, keyOf Try.prog 70 e.key = some l := by
    intro e he
    obtain ⟨k', hw', hk'⟩ := M.keys e he
    rw [hk']
    exact ky_keyD hw'
  rcases keyLawD.find w hl es.toList hks with ⟨h1, h2⟩ | ⟨j, e0, h1, h2, h3⟩
  · refine Or.inl ⟨fun w1 => ?_, h2, ?_⟩
    · rcases keyLawD.find w1 hl es.toList hks with ⟨h, -⟩ | ⟨j, e, -, h4, h5⟩
      · exact h
      · exact absurd h5 (h2 e (List.mem_of_getElem? h4))
    · apply Classical.byContradiction
      intro hn
      obtain ⟨e, he, hk⟩ := M.has k hn
      exact h2 e he hk
  · obtain ⟨x, hx, hv⟩ := M.vals e0 (List.mem_of_getElem? h2) k h3
    refine Or.inr ⟨j, e0, x, fun w1 => ?_, h2, h3, hx, hv⟩
    rcases keyLawD.find w1 hl es.toList hks with ⟨-, h⟩ | ⟨j', e, h, h4, h5⟩
    · exact absurd h3 (h e0 (List.mem_of_getElem? h2))
    · have hjj : j' = j := by
        apply Classical.byContradiction
        intro hne
        exact M.apart j' j e e0 h4 h2 hne (by rw [h5, h3])
      subst hjj
      rw [h2] at h4
      cases h4
      exact h

/-- What is looked up where nothing is. -/
theorem MpD.miss {b : Nat} {f : KyD → Option Int} {es : Array MapEntry} {clock : Nat} {w : World} (M : MpD b f es clock w) (k : KyD) (hk : WfKD k) (h : f k = none) :
    (∀ w1 : World, w1.heap[b]? = some (.map es clock) → (Instr.lookup 68 (.map (some b)) (kyVD k) true).run Try.prog w1 = .ok (.tuple #[.int .i64 0, .bool false]) w1) ∧
      ∀ (w2 : World) (x : Int), w2.heap[b]? = some (.map es clock) → ∃ es' clock', (Instr.mapUpdate 68 (.map (some b)) (kyVD k) (.int .i64 x)).run Try.prog w2 = .ok () (setBlock w2 b (.map es' clock')) ∧ MpD b (putD f k x) es' clock' (setBlock w2 b (.map es' clock')) ∧ es'.size = es.size + 1 := by
  obtain ⟨l, hl⟩ := ky_keyD hk
  rcases M.find k hk with ⟨h1, h2, -⟩ | ⟨j, e, x, -, -, -, hx, -⟩
  · refine ⟨fun w1 hb1 => ?_, fun w2 x hw2 => ⟨es.push ⟨kyVD k, .int .i64 x, clock⟩, clock + 1, ?_, ?_, by simp⟩⟩
    · simp [Instr.lookup, run_underlying Try.underlying68, MapKept.run_getObj_map hb1, keyLawD.check w1 _ hl, h1, Result.andThen, go_sem, Try.zeroValue3]
    · simp [Instr.mapUpdate, run_underlying Try.underlying68, MapKept.run_getObj_map hw2, keyLawD.check w2 false hl, h1, MapKept.run_setObj_map _ hw2, Result.andThen, setBlock]
    · have hmem : ∀ e, e ∈ (es.push ⟨kyVD k, .int .i64 x, clock⟩).toList → e ∈ es.toList ∨ e = ⟨kyVD k, .int .i64 x, clock⟩ := by
        intro e he
        simpa using he
      refine ⟨(MapKept.heap_set hw2).1, ?_, ?_, ?_, ?_⟩
      · intro e he
        rcases hmem e he with h | rfl
        · exact M.keys e h
        · exact ⟨k, hk, rfl⟩
      · intro e he q hq
        rcases hmem e he with h | rfl
        · have hne : q ≠ k := fun e1 => h2 e h (by rw [hq, e1])
          obtain ⟨y, hy, hv⟩ := M.vals e h q hq
          exact ⟨y, by unfold putD; rw [if_neg hne]; exact hy, hv⟩
        · have e1 : q = k := (ky_injD hq).symm
          exact ⟨x, by unfold putD; rw [if_pos e1], rfl⟩
      · intro q hq
        by_cases e1 : q = k
        · subst e1
          exact ⟨⟨kyVD q, .int .i64 x, clock⟩, by simp, rfl⟩
        · unfold putD at hq
          rw [if_neg e1] at hq
          obtain ⟨e, he, hk⟩ := M.has q hq
          exact ⟨e, by simp [he], hk⟩
      · intro i j a c ha hc hij
        rw [Array.toList_push] at ha hc
        by_cases hi : i < es.toList.length
        · rw [List.getElem?_append_left hi] at ha
          by_cases hj : j < es.toList.length
          · rw [List.getElem?_append_left hj] at hc
            exact M.apart i j a c ha hc hij
          · rw [List.getElem?_append_right (by omega)] at hc
            have : c = ⟨kyVD k, .int .i64 x, clock⟩ := by
              have := List.mem_of_getElem? hc
              simpa using this
            subst this
            exact h2 a (List.mem_of_getElem? ha)
        · rw [List.getElem?_append_right (by omega)] at ha
          have e1 : a = ⟨kyVD k, .int .i64 x, clock⟩ := by
            have := List.mem_of_getElem? ha
            simpa using this
          have hi2 : i = es.toList.length := by
            have h5 := (List.getElem?_eq_some_iff.1 ha).1
            rw [List.length_singleton] at h5
            omega
          by_cases hj : j < es.toList.length
          · rw [List.getElem?_append_left hj] at hc
            subst e1
            exact Ne.symm (h2 c (List.mem_of_getElem? hc))
          · rw [List.getElem?_append_right (by omega)] at hc
            have h5 := (List.getElem?_eq_some_iff.1 hc).1
            rw [List.length_singleton] at h5
            omega
  · rw [h] at hx; cases hx

/-- What is looked up where something is. -/
theorem MpD.hit {b : Nat} {f : KyD → Option Int} {es : Array MapEntry} {clock : Nat} {w : World} (M : MpD b f es clock w) (k : KyD) (hk : WfKD k) {x : Int} (h : f k = some x) :
    ∀ w1 : World, w1.heap[b]? = some (.map es clock) → (Instr.lookup 68 (.map (some b)) (kyVD k) true).run Try.prog w1 = .ok (.tuple #[.int .i64 x, .bool true]) w1 := by
  obtain ⟨l, hl⟩ := ky_keyD hk
  rcases M.find k hk with ⟨-, -, hn⟩ | ⟨j, e, y, h1, -, -, hy, hv⟩
  · rw [h] at hn; cases hn
  · rw [h] at hy
    cases hy
    intro w1 hb1
    simp [Instr.lookup, run_underlying Try.underlying68, MapKept.run_getObj_map hb1, keyLawD.check w1 _ hl, h1, hv, Result.andThen]

end Hn
end Go.Proofs.Ytbmfhdlbbaabgaa

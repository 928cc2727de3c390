/- A map from devices and numbers to controls. -/
import Derived.Test.YtbmfhdlbbaabgaaCeMapD
import Derived.BigRegion
import Derived.DeepKeys4
import Derived.WideKeyEntry
namespace Go.Proofs.Ytbmfhdlbbaabgaa
namespace Hn
open Go.ChangeShapes Go.WideShapes Go.ChangeAt Go.RowKit Go.Joins
open Pk (new_below join_below cell_at heap_new frozen_at lt_of kept heap_old Drawn info_of Room own_form own_below)
set_option linter.unusedSimpArgs false
set_option linter.unusedVariables false

open Go.ChangeMaps (setBlock)

/-- A key. -/
structure KyK where
  dv : Int
  no : Int
deriving DecidableEq

abbrev kyVK (k : KyK) : Value := .agg #[.int .i64 k.dv, .int .i64 k.no]

structure WfKK (k : KyK) : Prop where
  dv : WfI k.dv
  no : WfI k.no

theorem keyLawK : WideMaps.KeyLaw Try.prog 87 := deep_law_laid (m := 2) (by kernel_rfl) (by omega) (of_decide_eq_true (by kernel_rfl)) (by kernel_rfl) (by kernel_rfl)

theorem ky_injK {a b : KyK} (h : kyVK a = kyVK b) : a = b := by
  obtain ⟨a0, a1⟩ := a
  obtain ⟨b0, b1⟩ := b
  simp only [kyVK, Value.agg.injEq, Array.mk.injEq, List.cons.injEq, Value.int.injEq, true_and, and_true] at h
  obtain ⟨h0, h1⟩ := h
  rw [h0, h1]

theorem ky_keyK {k : KyK} (h : WfKK k) : ∃ l, keyOf Try.prog 87 (kyVK k) = some l := by
  obtain ⟨a0, a1⟩ := k
  obtain ⟨w0, w1⟩ := h
  have c4 : Try.prog.cellsOf 87 = 2 := by kernel_rfl
  have c1 : Try.prog.cellsOf 3 = 1 := by kernel_rfl
  have kl : ∀ d, Try.prog.keyLits (d + 2) 87 [.int .i64 a0, .int .i64 a1] = some [.int .i64 a0, .int .i64 a1] := by
    intro d
    simp [Program.keyLits, Try.underlying87, Try.underlying3, c4, c1, w0, w1]
  unfold keyOf
  simp [go_sem, Try.underlying87]
  refine ⟨⟨by kernel_rfl, ?_⟩, _, _, kl _, rfl⟩
  simp [Value.formed, Try.underlying87, c4]

/-- Block b is a map that has f k at each key k. -/
structure MpK (b : Nat) (f : KyK → Option Ct) (es : Array MapEntry) (clock : Nat) (w : World) : Prop where
  blk : w.heap[b]? = some (.map es clock)
  keys : ∀ e ∈ es.toList, ∃ k, WfKK k ∧ e.key = kyVK k
  vals : ∀ e ∈ es.toList, ∀ k, e.key = kyVK k → ∃ x, f k = some x ∧ e.val = (lgV x)
  has : ∀ k, f k ≠ none → ∃ e ∈ es.toList, e.key = kyVK k
  apart : ∀ (i j : Nat) (x y : MapEntry), es.toList[i]? = some x → es.toList[j]? = some y → i ≠ j → x.key ≠ y.key

theorem mp_newK (w : World) : MpK w.heap.size (fun _ => none) #[] 0 (w.alloc (.map #[] 0)) :=
  ⟨heap_new w _, by simp, by simp, fun k h => absurd rfl h, by intro i j x y h; simp at h⟩

theorem MpK.on {b : Nat} {f : KyK → Option Ct} {es : Array MapEntry} {clock : Nat} {w w1 : World} (M : MpK b f es clock w) (h : w1.heap[b]? = w.heap[b]?) : MpK b f es clock w1 := ⟨h.trans M.blk, M.keys, M.vals, M.has, M.apart⟩

def putK (f : KyK → Option Ct) (k : KyK) (x : Ct) : KyK → Option Ct := fun q => if q = k then some x else f q

theorem MpK.find {b : Nat} {f : KyK → Option Ct} {es : Array MapEntry} {clock : Nat} {w : World} (M : MpK b f es clock w) (k : KyK) (hk : WfKK k) :
    ((∀ w : World, (Instr.findKey 87 (kyVK k) es.toList).run Try.prog w = .ok none w) ∧ (∀ e ∈ es.toList, e.key ≠ kyVK k) ∧ f k = none) ∨ ∃ j e x, (∀ w : World, (Instr.findKey 87 (kyVK k) es.toList).run Try.prog w = .ok (some (j, e.val)) w) ∧ es.toList[j]? = some e ∧ e.key = kyVK k ∧ f k = some x ∧ e.val = (lgV x) := by
  obtain ⟨l, hl⟩ := ky_keyK hk
  have hks : ∀ e ∈ es.toList, ∃ l, keyOf Try.prog 87 e.key = some l := by
    intro e he
    obtain ⟨k', hw', hk'⟩ := M.keys e he
    rw [hk']
    exact ky_keyK hw'
  rcases keyLawK.find w hl es.toList hks with ⟨h1, h2⟩ | ⟨j, e0, h1, h2, h3⟩
  · refine Or.inl ⟨fun w1 => ?_, h2, ?_⟩
    · rcases keyLawK.find w1 hl es.toList hks with ⟨h, -⟩ | ⟨j, e, -, h4, h5⟩
      · exact h
      · exact absurd h5 (h2 e (List.mem_of_getElem? h4))
    · apply Classical.byContradiction
      intro hn
      obtain ⟨e, he, hk⟩ := M.has k hn
      exact h2 e he hk
  · obtain ⟨x, hx, hv⟩ := M.vals e0 (List.mem_of_getElem? h2) k h3
    refine Or.inr ⟨j, e0, x, fun w1 => ?_, h2, h3, hx, hv⟩
    rcases keyLawK.find w1 hl es.toList hks with ⟨-, h⟩ | ⟨j', e, h, h4, h5⟩
    · exact absurd h3 (h e0 (List.mem_of_getElem? h2))
    · have hjj : j' = j := by
        apply Classical.byContradiction
        intro hne
        exact M.apart j' j e e0 h4 h2 hne (by rw [h5, h3])
      subst hjj
      rw [h2] at h4
      cases h4
      exact h

/-- What is looked up where nothing is. -/
theorem MpK.miss {b : Nat} {f : KyK → Option Ct} {es : Array MapEntry} {clock : Nat} {w : World} (M : MpK b f es clock w) (k : KyK) (hk : WfKK k) (h : f k = none) :
    (∀ w1 : World, w1.heap[b]? = some (.map es clock) → (Instr.lookup 78 (.map (some b)) (kyVK k) true).run Try.prog w1 = .ok (.tuple #[lgV ⟨0, 0, 0, 0, 0, 0⟩, .bool false]) w1) ∧
      ∀ (x : Ct), ∃ es' clock', es'.size = es.size + 1 ∧ ∀ (w2 : World), w2.heap[b]? = some (.map es clock) → (Instr.mapUpdate 78 (.map (some b)) (kyVK k) ((lgV x))).run Try.prog w2 = .ok () (setBlock w2 b (.map es' clock')) ∧ MpK b (putK f k x) es' clock' (setBlock w2 b (.map es' clock')) := by
  obtain ⟨l, hl⟩ := ky_keyK hk
  rcases M.find k hk with ⟨h1, h2, -⟩ | ⟨j, e, x, -, -, -, hx, -⟩
  · refine ⟨fun w1 hb1 => ?_, fun x => ⟨es.push ⟨kyVK k, (lgV x), clock⟩, clock + 1, by simp, fun w2 hw2 => ⟨?_, ?_⟩⟩⟩
    · simp [Instr.lookup, run_underlying Try.underlying78, MapKept.run_getObj_map hb1, keyLawK.check w1 _ hl, h1, Result.andThen, go_sem, Try.zeroValue37]
    · simp [Instr.mapUpdate, run_underlying Try.underlying78, MapKept.run_getObj_map hw2, keyLawK.check w2 false hl, h1, MapKept.run_setObj_map _ hw2, Result.andThen, setBlock]
    · have hmem : ∀ e, e ∈ (es.push ⟨kyVK k, (lgV x), clock⟩).toList → e ∈ es.toList ∨ e = ⟨kyVK k, (lgV x), clock⟩ := by
        intro e he
        simpa using he
      refine ⟨(MapKept.heap_set hw2).1, ?_, ?_, ?_, ?_⟩
      · intro e he
        rcases hmem e he with h | rfl
        · exact M.keys e h
        · exact ⟨k, hk, rfl⟩
      · intro e he q hq
        rcases hmem e he with h | rfl
        · have hne : q ≠ k := fun e1 => h2 e h (by rw [hq, e1])
          obtain ⟨y, hy, hv⟩ := M.vals e h q hq
          exact ⟨y, by unfold putK; rw [if_neg hne]; exact hy, hv⟩
        · have e1 : q = k := (ky_injK hq).symm
          exact ⟨x, by unfold putK; rw [if_pos e1], rfl⟩
      · intro q hq
        by_cases e1 : q = k
        · subst e1
          exact ⟨⟨kyVK q, (lgV x), clock⟩, by simp, rfl⟩
        · unfold putK at hq
          rw [if_neg e1] at hq
          obtain ⟨e, he, hk⟩ := M.has q hq
          exact ⟨e, by simp [he], hk⟩
      · intro i j a c ha hc hij
        rw [Array.toList_push] at ha hc
        by_cases hi : i < es.toList.length
        · rw [List.getElem?_append_left hi] at ha
          by_cases hj : j < es.toList.length
          · rw [List.getElem?_append_left hj] at hc
            exact M.apart i j a c ha hc hij
          · rw [List.getElem?_append_right (by omega)] at hc
            have : c = ⟨kyVK k, (lgV x), clock⟩ := by
              have := List.mem_of_getElem? hc
              simpa using this
            subst this
            exact h2 a (List.mem_of_getElem? ha)
        · rw [List.getElem?_append_right (by omega)] at ha
          have e1 : a = ⟨kyVK k, (lgV x), clock⟩ := by
            have := List.mem_of_getElem? ha
            simpa using this
          have hi2 : i = es.toList.length := by
            have h5 := (List.getElem?_eq_some_iff.1 ha).1
            rw [List.length_singleton] at h5
            omega
          by_cases hj : j < es.toList.length
          · rw [List.getElem?_append_left hj] at hc
            subst e1
            exact Ne.symm (h2 c (List.mem_of_getElem? hc))
          · rw [List.getElem?_append_right (by omega)] at hc
            have h5 := (List.getElem?_eq_some_iff.1 hc).1
            rw [List.length_singleton] at h5
            omega
  · rw [h] at hx; cases hx

/-- What is looked up where something is. -/
theorem MpK.hit {b : Nat} {f : KyK → Option Ct} {es : Array MapEntry} {clock : Nat} {w : World} (M : MpK b f es clock w) (k : KyK) (hk : WfKK k) {x : Ct} (h : f k = some x) :
    ∀ w1 : World, w1.heap[b]? = some (.map es clock) → (Instr.lookup 78 (.map (some b)) (kyVK k) true).run Try.prog w1 = .ok (.tuple #[(lgV x), .bool true]) w1 := by
  obtain ⟨l, hl⟩ := ky_keyK hk
  rcases M.find k hk with ⟨-, -, hn⟩ | ⟨j, e, y, h1, -, -, hy, hv⟩
  · rw [h] at hn; cases hn
  · rw [h] at hy
    cases hy
    intro w1 hb1
    simp [Instr.lookup, run_underlying Try.underlying78, MapKept.run_getObj_map hb1, keyLawK.check w1 _ hl, h1, hv, Result.andThen]

def delK (f : KyK → Option Ct) (k : KyK) : KyK → Option Ct := fun q => if q = k then none else f q

theorem MpK.del {b : Nat} {f : KyK → Option Ct} {es : Array MapEntry} {clock : Nat} {w : World} (M : MpK b f es clock w) (k : KyK) (hk : WfKK k) {x : Ct} (h : f k = some x) :
    ∃ es', (∀ ty, (Builtin.delete_ #[78, 87] ty #[.map (some b), kyVK k]).run Try.prog w = .ok (.tuple #[]) (setBlock w b (.map es' clock))) ∧ MpK b (delK f k) es' clock (setBlock w b (.map es' clock)) := by
  obtain ⟨l, hl⟩ := ky_keyK hk
  have hb := M.blk
  rcases M.find k hk with ⟨-, -, hn⟩ | ⟨j, e, y, h1, h2, h3, hy, hv⟩
  · rw [h] at hn; cases hn
  · have hjs : j < es.size := by simpa using (List.getElem?_eq_some_iff.1 h2).1
    have hsub : (es.eraseIdxIfInBounds j).toList = es.toList.eraseIdx j := by
      unfold Array.eraseIdxIfInBounds
      rw [dif_pos hjs]
      simp
    have hmem : ∀ e', e' ∈ es.toList.eraseIdx j ↔ ∃ i, i ≠ j ∧ es.toList[i]? = some e' := fun e' => List.mem_eraseIdx_iff_getElem?
    refine ⟨es.eraseIdxIfInBounds j, fun ty => ?_, (MapKept.heap_set hb).1, ?_, ?_, ?_, ?_⟩
    · simp [Builtin.delete_, run_underlying Try.underlying78, MapKept.run_getObj_map hb, keyLawK.check w _ hl, h1, MapKept.run_setObj_map _ hb, Result.andThen, setBlock]
    · intro e' he
      rw [hsub] at he
      exact M.keys e' ((List.eraseIdx_sublist _ _).subset he)
    · intro e' he q hq
      rw [hsub, hmem] at he
      obtain ⟨i, hij, hi⟩ := he
      have hne : q ≠ k := fun e1 => M.apart i j e' e hi h2 hij (by rw [hq, h3, e1])
      obtain ⟨z, hz, hzv⟩ := M.vals e' (List.mem_of_getElem? hi) q hq
      exact ⟨z, by unfold delK; rw [if_neg hne]; exact hz, hzv⟩
    · intro q hq
      unfold delK at hq
      by_cases e1 : q = k
      · rw [if_pos e1] at hq
        exact absurd rfl hq
      · rw [if_neg e1] at hq
        obtain ⟨e', he, hk'⟩ := M.has q hq
        refine ⟨e', ?_, hk'⟩
        obtain ⟨i, hi⟩ := List.mem_iff_getElem?.1 he
        rw [hsub, hmem]
        refine ⟨i, fun hij => e1 ?_, hi⟩
        subst hij
        rw [h2] at hi
        cases hi
        exact ky_injK (hk'.symm.trans h3)
    · intro i i' a c ha hc hii
      rw [hsub] at ha hc
      rw [List.getElem?_eraseIdx] at ha hc
      split at ha <;> split at hc
      · exact M.apart _ _ a c ha hc hii
      · exact M.apart _ _ a c ha hc (by omega)
      · exact M.apart _ _ a c ha hc (by omega)
      · exact M.apart _ _ a c ha hc (by omega)

end Hn
end Go.Proofs.Ytbmfhdlbbaabgaa

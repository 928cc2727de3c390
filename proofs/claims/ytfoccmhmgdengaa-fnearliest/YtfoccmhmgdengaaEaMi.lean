/- Maps from stations to numbers, as the program's search keeps them. -/
import Derived.Test.YtfoccmhmgdengaaEaMap
import Derived.Maps.RangeWalk
namespace Go.Proofs.Ytfoccmhmgdengaa
namespace Rd
namespace Em
open Go.ChangeShapes Go.WideShapes Go.ChangeAt Go.RowKit
open Pk (new_below join_below cell_at heap_new frozen_at lt_of kept heap_old)
open Go.Maps (Keyed)
set_option linter.unusedSimpArgs false
set_option linter.unusedVariables false

/-- An element reads as itself. -/
def hld (v : Value) : Option (DataW Value × List MemPlace) := some (.held v, [])

abbrev kk (k : Int) : Lit := .int .i64 k

theorem kk_of {k : Int} (h : WfI k) : keyOf Try.prog 3 (.int .i64 k) = some (kk k) := Maps.keyOf_int_mk Try.underlying3 h

theorem kk_lit {k : Int} (h : WfI k) : WideAt.IsKeyLit (kk k) := keyLaw.key (kk_of h)

theorem kk_ne {a b : Int} (h : a ≠ b) : kk a ≠ kk b := by
  intro e
  cases e
  exact h rfl

theorem zeroI (w : World) : (zeroValue 3).run Try.prog w = .ok (.int .i64 0) w := by kernel_rfl

/-- Block b is a map that has L k at each k. -/
def Mi (w : World) (b n : Nat) (L : Int → Option Int) : Prop := ∃ D, w.ownsMap Try.prog 3 hld b n D ∧ ∀ k, WfI k → (L k = none → Maps.has D (kk k) = false) ∧ ∀ x, L k = some x → Maps.has D (kk k) = true ∧ ∀ z, D.atKey (kk k) z = .held (.int .i64 x)

theorem mi_made (w : World) : Mi (w.alloc (.map #[] 0)) w.heap.size 0 (fun _ => none) :=
  ⟨.map [], World.ownsMap_made w _ _ _, fun k hk => ⟨fun _ => rfl, fun x h => by cases h⟩⟩

theorem Mi.lt {w : World} {b n : Nat} {L : Int → Option Int} (h : Mi w b n L) : b < w.heap.size := by obtain ⟨D, h, -⟩ := h; exact h.lt

theorem Mi.isMap {w : World} {b n : Nat} {L : Int → Option Int} (h : Mi w b n L) : ∃ es c, w.heap[b]? = some (.map es c) := by
  obtain ⟨D, ⟨es, c, h, -⟩, -⟩ := h
  exact ⟨es, c, h⟩

theorem Mi.on {w w1 : World} {b n : Nat} {L : Int → Option Int} (h : Mi w b n L) (e : w1.heap[b]? = w.heap[b]?) : Mi w1 b n L := by
  obtain ⟨D, ⟨es, clock, hh, r⟩, q⟩ := h
  exact ⟨D, ⟨es, clock, e.trans hh, r⟩, q⟩

theorem Mi.more {w : World} {b n m : Nat} {L : Int → Option Int} (h : Mi w b n L) (hm : n ≤ m) : Mi w b m L := by
  obtain ⟨D, h1, h2⟩ := h
  exact ⟨D, h1.mono hm, h2⟩

theorem Mi.look2 {w : World} {b n : Nat} {L : Int → Option Int} (h : Mi w b n L) {k : Int} (hk : WfI k) :
    (Instr.lookup 97 (.map (some b)) (.int .i64 k) true).run Try.prog w = .ok (.tuple #[.int .i64 ((L k).getD 0), .bool (L k).isSome]) w := by
  obtain ⟨D, h1, h2⟩ := h
  obtain ⟨v, ps, hrun, hv⟩ := h1.look_ok keyLaw Try.underlying97 (zeroI w) (zd := .held (.int .i64 0)) (zp := []) rfl (kk_of hk)
  rw [hrun]
  simp only [hld, Option.some.injEq, Prod.mk.injEq] at hv
  cases hL : L k with
  | none =>
    have hn := (h2 k hk).1 hL
    rw [Maps.atKey_of_not_has hn] at hv
    rw [hn]
    have := hv.1
    simp only [DataW.held.injEq] at this
    rw [this]
    rfl
  | some x =>
    obtain ⟨hn, ha⟩ := (h2 k hk).2 x hL
    rw [ha] at hv
    rw [hn]
    have := hv.1
    simp only [DataW.held.injEq] at this
    rw [this]
    rfl

theorem Mi.look1 {w : World} {b n : Nat} {L : Int → Option Int} (h : Mi w b n L) {k : Int} (hk : WfI k) :
    (Instr.lookup 97 (.map (some b)) (.int .i64 k) false).run Try.prog w = .ok (.int .i64 ((L k).getD 0)) w := by
  obtain ⟨D, h1, h2⟩ := h
  obtain ⟨v, ps, hrun, hv⟩ := h1.lookup keyLaw Try.underlying97 (zeroI w) (zd := .held (.int .i64 0)) (zp := []) rfl (kk_of hk)
  rw [hrun]
  simp only [hld, Option.some.injEq, Prod.mk.injEq] at hv
  cases hL : L k with
  | none =>
    have hn := (h2 k hk).1 hL
    rw [Maps.atKey_of_not_has hn] at hv
    have := hv.1
    simp only [DataW.held.injEq] at this
    rw [this]
    rfl
  | some x =>
    obtain ⟨hn, ha⟩ := (h2 k hk).2 x hL
    rw [ha] at hv
    have := hv.1
    simp only [DataW.held.injEq] at this
    rw [this]
    rfl

def putL (L : Int → Option Int) (k x : Int) : Int → Option Int := fun q => if q = k then some x else L q

theorem Mi.put {w : World} {b n : Nat} {L : Int → Option Int} (h : Mi w b n L) (hn : n < maxLen) {k : Int} (hk : WfI k) (x : Int) :
    ∃ w', (Instr.mapUpdate 97 (.map (some b)) (.int .i64 k) (.int .i64 x)).run Try.prog w = .ok () w' ∧ Mi w' b (n + 1) (putL L k x) ∧ w.grownBy w' (some b) := by
  obtain ⟨D, h1, h2⟩ := h
  obtain ⟨w', hrun, r1, r2⟩ := h1.update keyLaw Try.underlying97 hn (kk_of hk) (val := .int .i64 x) (d := .held (.int .i64 x)) (ps := []) rfl
  refine ⟨w', hrun, ⟨_, r1, fun j hj => ?_⟩, r2⟩
  by_cases e : j = k
  · subst e
    refine ⟨fun h => by simp [putL] at h, fun q hq => ?_⟩
    simp [putL] at hq
    subst hq
    exact ⟨Maps.has_put_same h1.isMap (kk_lit hj) _, fun z => Maps.atKey_put_same h1.isMap (kk_lit hj) _ z⟩
  · simp only [putL, if_neg e]
    rw [Maps.has_put_other (kk_ne e)]
    refine ⟨(h2 j hj).1, fun q hq => ?_⟩
    obtain ⟨h3, h4⟩ := (h2 j hj).2 q hq
    exact ⟨h3, fun z => by rw [Maps.atKey_put_other (kk_ne e)]; exact h4 z⟩

end Em
end Rd
end Go.Proofs.Ytfoccmhmgdengaa

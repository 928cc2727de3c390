/- Contracts of the laws' own helpers over slices of numbers: their size, a copy, two held against each other, marked from a number on and held against the marks. -/
import Derived.Test.YtbmfhdlbbaabgaaHnCtl
namespace Go.Proofs.Ytbmfhdlbbaabgaa
namespace Hn
open Go.ChangeShapes Go.WideShapes Go.ChangeAt Go.RowKit
open Pk (new_below join_below cell_at heap_new frozen_at lt_of kept info_of own_form own_below Drawn Room)
set_option linter.unusedSimpArgs false
set_option linter.unusedVariables false

/-- A slice of numbers. -/
def Ints (w : World) (a : Option Addr) (zs : List Int) : Prop := zs = [] ∨ ∃ b o, a = some ⟨b, o, none⟩ ∧ b < w.heap.size ∧ ∀ i (hi : i < zs.length), w.cell? ⟨b, o + i, none⟩ = some (.int .i64 zs[i])

theorem Ints.on {w w1 : World} {a : Option Addr} {zs : List Int} (h : Ints w a zs) (hb : Below w.heap.size w w1) : Ints w1 a zs := by
  rcases h with h | ⟨b, o, ha, hlt, hc⟩
  · exact Or.inl h
  · exact Or.inr ⟨b, o, ha, Nat.lt_of_lt_of_le hlt hb.size, fun i hi => by rw [hb.cell (p := ⟨b, o + i, none⟩) hlt]; exact hc i hi⟩

theorem Ints.at {w : World} {a : Option Addr} {zs : List Int} (h : Ints w a zs) (i : Nat) (hi : i < zs.length) : ∃ b o, a = some ⟨b, o, none⟩ ∧ b < w.heap.size ∧ w.cell? ⟨b, o + i, none⟩ = some (.int .i64 zs[i]) := by
  rcases h with h | ⟨b, o, ha, hlt, hc⟩
  · subst h; simp at hi
  · exact ⟨b, o, ha, hlt, hc i hi⟩

theorem intInfo : (Try.prog.info? 3).map (fun i => (i.zero, i.size, i.bytes)) = some (some (.int .i64 0), 1, 8) := by kernel_rfl

/-- The first k cells of block g hold the numbers; all n can be written. -/
def Filled (w : World) (g n k : Nat) (zs : List Int) : Prop := ∀ j, j < n → (∃ v, w.cell? ⟨g, j, none⟩ = some v) ∧ w.frozen? ⟨g, j, none⟩ = false ∧ (j < k → w.cell? ⟨g, j, none⟩ = some (.int .i64 (zs.getD j 0)))

theorem Filled.step {w : World} {g n k : Nat} {zs : List Int} (h : Filled w g n k zs) : Filled (w.setCell ⟨g, k, none⟩ (.int .i64 (zs.getD k 0))) g n (k + 1) zs := by
  intro j hj
  obtain ⟨⟨v, hv⟩, hf, hc⟩ := h j hj
  by_cases e : j = k
  · subst e
    refine ⟨⟨_, World.cell?_setCell_same _ _ _ hv⟩, by rw [World.frozen?_setCell]; exact hf, fun _ => World.cell?_setCell_same _ _ _ hv⟩
  · have hne : (⟨g, j, none⟩ : Addr) ≠ ⟨g, k, none⟩ := by simp [e]
    refine ⟨⟨v, by rw [World.cell?_setCell_other _ _ _ _ (by simp [e])]; exact hv⟩, by rw [World.frozen?_setCell]; exact hf, fun hk => ?_⟩
    rw [World.cell?_setCell_other _ _ _ _ (by simp [e])]
    exact hc (by omega)

theorem Filled.ints {w : World} {g : Nat} {zs : List Int} (h : Filled w g zs.length zs.length zs) (hg : g < w.heap.size) : Ints w (some ⟨g, 0, none⟩) zs := by
  refine Or.inr ⟨g, 0, rfl, hg, fun i hi => ?_⟩
  have := (h i hi).2.2 hi
  rw [Nat.zero_add, this, List.getD_eq_getElem?_getD, List.getElem?_eq_getElem hi]
  rfl

theorem Filled.made {w : World} {g n : Nat} {cur : Array Value} {t : TypeId} {zs : List Int} (h : w.heap[g]? = some (.cells cur t (0, 0))) (hs : cur.size = n) : Filled w g n 0 zs := by
  intro j hj
  refine ⟨⟨cur[j], ?_⟩, frozen_at h j, fun hk => by omega⟩
  rw [cell_at h j]
  exact Array.getElem?_eq_getElem (by omega)

/-- What came in as a row, as a slice of numbers. -/
theorem ints_row {w : World} {x : Addr} {len : Nat} {zs : List Int} (hl : len ≤ zs.length) (hc : ∀ i, i < zs.length → w.cell? (x.add i) = some (.int .i64 (zs.getD i 0))) : ∃ ys : List Int, ys.length = len ∧ Ints w (some x) ys := by
  by_cases h0 : len = 0
  · exact ⟨[], h0.symm, Or.inl rfl⟩
  obtain ⟨b, o, spot⟩ := x
  have hs := World.cell?_spot (hc 0 (by omega))
  simp [Addr.add] at hs
  subst hs
  refine ⟨zs.take len, by rw [List.length_take]; omega, Or.inr ⟨b, o, rfl, ?_, fun i hi => ?_⟩⟩
  · have h1 := hc 0 (by omega)
    apply Nat.lt_of_not_le
    intro hle
    unfold World.cell? at h1
    simp [Addr.add, Array.getElem?_eq_none hle] at h1
  · rw [List.length_take] at hi
    have h1 := hc i (by omega)
    rw [show Addr.add ⟨b, o, none⟩ i = ⟨b, o + i, none⟩ by simp [Addr.add]] at h1
    rw [h1, List.getElem_take, List.getD_eq_getElem?_getD, List.getElem?_eq_getElem (by omega)]
    rfl

/-- All but the blocks from lo up to hi is as it was. -/
structure Band (lo hi : Nat) (w w' : World) : Prop where
  os : w'.os = w.os
  tape : w'.tape = w.tape
  output : w'.output = w.output
  size : w'.heap.size = w.heap.size
  block : ∀ b, b < lo ∨ hi ≤ b → w'.heap[b]? = w.heap[b]?

theorem Band.refl (lo hi : Nat) (w : World) : Band lo hi w w := ⟨rfl, rfl, rfl, rfl, fun _ _ => rfl⟩

theorem Band.trans {lo hi : Nat} {a b c : World} (h : Band lo hi a b) (k : Band lo hi b c) : Band lo hi a c :=
  ⟨k.os.trans h.os, k.tape.trans h.tape, k.output.trans h.output, k.size.trans h.size, fun i hi => (k.block i hi).trans (h.block i hi)⟩

theorem Band.wide {lo hi lo' hi' : Nat} {w w' : World} (h : Band lo hi w w') (h1 : lo' ≤ lo) (h2 : hi ≤ hi') : Band lo' hi' w w' :=
  ⟨h.os, h.tape, h.output, h.size, fun b hb => h.block b (by omega)⟩

theorem Band.set {lo hi : Nat} {a w : World} (h : Band lo hi a w) {g i : Nat} (h1 : lo ≤ g) (h2 : g < hi) (u : Value) : Band lo hi a (w.setCell ⟨g, i, none⟩ u) := by
  have L := (Below.refl 0 w).setCell (p := ⟨g, i, none⟩) (Nat.zero_le _) u
  refine ⟨L.os.trans h.os, L.tape.trans h.tape, L.output.trans h.output, by rw [World.size_setCell]; exact h.size, fun b hb => ?_⟩
  rw [Below.heap_setCell w ⟨g, i, none⟩ u b (by show b ≠ g; omega)]
  exact h.block b hb

theorem Band.below {lo hi : Nat} {w w' : World} (h : Band lo hi w w') : Below lo w w' := ⟨h.os, h.tape, h.output, Nat.le_of_eq h.size.symm, fun k hk => h.block k (Or.inl hk)⟩


theorem Ints.band {lo hi : Nat} {w w1 : World} {a : Option Addr} {zs : List Int} (h : Ints w a zs) (L : Band lo hi w w1) (ha : ∀ b o, a = some ⟨b, o, none⟩ → zs ≠ [] → b < lo ∨ hi ≤ b) : Ints w1 a zs := by
  rcases h with h | ⟨b, o, rfl, hlt, hc⟩
  · exact Or.inl h
  · by_cases hz : zs = []
    · exact Or.inl hz
    · exact Or.inr ⟨b, o, rfl, by rw [L.size]; exact hlt, fun i hi => by rw [World.cell?_of_block (a := ⟨b, o + i, none⟩) (L.block b (ha b o rfl hz))]; exact hc i hi⟩

/-- Numbers in a block of their own have room. -/
theorem Ints.room {w : World} {g : Nat} {zs : List Int} (h : Ints w (some ⟨g, 0, none⟩) zs) (hf : ∀ i, w.frozen? ⟨g, i, none⟩ = false) : Room w g zs.length := by
  intro j hj
  obtain ⟨b, o, e, -, hc⟩ := h.at j hj
  simp only [Option.some.injEq, Addr.mk.injEq] at e
  obtain ⟨rfl, rfl, -⟩ := e
  rw [Nat.zero_add] at hc
  exact ⟨⟨_, hc⟩, hf j⟩

theorem Room.band {lo hi : Nat} {w w1 : World} {g m : Nat} (h : Room w g m) (L : Band lo hi w w1) (hg : g < lo ∨ hi ≤ g) : Room w1 g m := by
  intro j hj
  rw [World.cell?_of_block (a := ⟨g, j, none⟩) (L.block g hg), World.frozen?_of_block (a := ⟨g, j, none⟩) (L.block g hg)]
  exact h j hj

/-- The marks of n numbers in block g. -/
def Mkd (z : Int) (w : World) (g n : Nat) : Prop := ∀ i, i < n → w.cell? ⟨g, i, none⟩ = some (.int .i64 (z + (i : Int)))

theorem Mkd.on {w w1 : World} {g n B : Nat} {z : Int} (h : Mkd z w g n) (L : Below B w w1) (hg : g < B) : Mkd z w1 g n := by
  intro i hi
  rw [L.cell (p := ⟨g, i, none⟩) hg]
  exact h i hi

theorem Mkd.step {w : World} {g n k : Nat} {z : Int} (h : Mkd z w g k) (R : Room w g n) (hk : k < n) : Mkd z (w.setCell ⟨g, k, none⟩ (.int .i64 (z + (k : Int)))) g (k + 1) := by
  intro i hi
  by_cases e : i = k
  · subst e
    obtain ⟨⟨v, hv⟩, -⟩ := R i hk
    rw [set_cell hv, if_pos rfl]
  · rw [set_cell (h i (by omega)), if_neg e]

end Hn
end Go.Proofs.Ytbmfhdlbbaabgaa

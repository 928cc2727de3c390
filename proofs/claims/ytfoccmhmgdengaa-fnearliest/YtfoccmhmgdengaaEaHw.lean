/- The program's heap of ways as it lies in memory. -/
import Derived.Test.YtfoccmhmgdengaaEaMeth
import Derived.Test.YtfoccmhmgdengaaMathHeap
import Derived.Test.YtfoccmhmgdengaaEaRow
namespace Go.Proofs.Ytfoccmhmgdengaa
namespace Rd
open Go.ChangeShapes Go.WideShapes Go.ChangeAt Go.RowKit
open Pk (new_below join_below cell_at heap_new frozen_at lt_of kept heap_old)
set_option linter.unusedSimpArgs false
set_option linter.unusedVariables false

/-- The cells of ways. -/
def vc1 (v : Vw) : List Value := [.int .i64 v.s, .int .i64 v.y, .int .i64 (v.n : Int)]
def vcells (f : Nat → Vw) (n : Nat) : List Value := (List.range n).flatMap fun k => vc1 (f k)
abbrev vV (v : Vw) : Value := .agg #[.int .i64 v.s, .int .i64 v.y, .int .i64 (v.n : Int)]
def upd (f : Nat → Vw) (k : Nat) (v : Vw) : Nat → Vw := fun j => if j = k then v else f j

theorem vcells_succ (f : Nat → Vw) (n : Nat) : vcells f (n + 1) = vcells f n ++ vc1 (f n) := by
  unfold vcells
  rw [List.range_succ, List.flatMap_append]
  simp

theorem vcells_length (f : Nat → Vw) : ∀ n, (vcells f n).length = n * 3
  | 0 => rfl
  | n + 1 => by rw [vcells_succ, List.length_append, vcells_length f n]; simp [vc1]; omega

theorem vcells_get (f : Nat → Vw) : ∀ (n i : Nat), i < n * 3 → (vcells f n)[i]? = (vc1 (f (i / 3)))[i % 3]?
  | 0, i, h => by omega
  | n + 1, i, h => by
    rw [vcells_succ]
    by_cases c : i < n * 3
    · rw [List.getElem?_append_left (by rw [vcells_length]; exact c)]
      exact vcells_get f n i c
    · rw [List.getElem?_append_right (by rw [vcells_length]; omega), vcells_length, show i / 3 = n by omega, show i % 3 = i - n * 3 by omega]

theorem vcells_at (f : Nat → Vw) {n k : Nat} (h : k < n) : (vcells f n)[k * 3]? = some (.int .i64 (f k).s) ∧ (vcells f n)[k * 3 + 1]? = some (.int .i64 (f k).y) ∧ (vcells f n)[k * 3 + 2]? = some (.int .i64 ((f k).n : Int)) := by
  refine ⟨?_, ?_, ?_⟩
  · rw [vcells_get f n _ (by omega), show k * 3 / 3 = k by omega, show k * 3 % 3 = 0 by omega]; rfl
  · rw [vcells_get f n _ (by omega), show (k * 3 + 1) / 3 = k by omega, show (k * 3 + 1) % 3 = 1 by omega]; rfl
  · rw [vcells_get f n _ (by omega), show (k * 3 + 2) / 3 = k by omega, show (k * 3 + 2) % 3 = 2 by omega]; rfl

theorem vcells_set (f : Nat → Vw) {n k : Nat} (h : k < n) (v : Vw) : (((vcells f n).set (k * 3) (.int .i64 v.s)).set (k * 3 + 1) (.int .i64 v.y)).set (k * 3 + 2) (.int .i64 (v.n : Int)) = vcells (upd f k v) n := by
  apply List.ext_getElem?
  intro i
  have hl := vcells_length f n
  by_cases hi : i < n * 3
  · rw [vcells_get (upd f k v) n i hi]
    by_cases h2 : i = k * 3 + 2
    · subst h2
      rw [List.getElem?_set_self (by simp; omega), show (k * 3 + 2) / 3 = k by omega, show (k * 3 + 2) % 3 = 2 by omega]
      simp [upd, vc1]
    · rw [List.getElem?_set_ne (by omega)]
      by_cases h1 : i = k * 3 + 1
      · subst h1
        rw [List.getElem?_set_self (by simp; omega), show (k * 3 + 1) / 3 = k by omega, show (k * 3 + 1) % 3 = 1 by omega]
        simp [upd, vc1]
      · rw [List.getElem?_set_ne (by omega)]
        by_cases h0 : i = k * 3
        · subst h0
          rw [List.getElem?_set_self (by omega), show k * 3 / 3 = k by omega, show k * 3 % 3 = 0 by omega]
          simp [upd, vc1]
        · rw [List.getElem?_set_ne (by omega), vcells_get f n i hi]
          simp only [upd, if_neg (show ¬ i / 3 = k by omega)]
  · rw [List.getElem?_eq_none (by simp; omega), List.getElem?_eq_none (by rw [vcells_length]; omega)]

theorem vcells_push (f : Nat → Vw) (n : Nat) (v : Vw) : vcells f n ++ vc1 v = vcells (upd f n v) (n + 1) := by
  rw [vcells_succ]
  congr 1
  · unfold vcells
    rw [List.flatMap_def, List.flatMap_def, List.map_congr_left fun k hk => ?_]
    have := List.mem_range.1 hk
    simp only [upd, if_neg (show ¬ k = n by omega)]
  · simp [upd]

theorem vcells_take (f : Nat → Vw) (n : Nat) : (vcells f (n + 1)).take (n * 3) = vcells f n := by
  rw [vcells_succ, List.take_left' (vcells_length f n)]

theorem vcells_one (f : Nat → Vw) (n : Nat) : ∀ u ∈ vcells f n, u.oneCell' = true := by
  intro u hu
  obtain ⟨p, -, h⟩ := List.mem_flatMap.1 hu
  simp [vc1] at h
  rcases h with rfl | rfl | rfl <;> rfl

theorem upd_sw1 (f : Nat → Vw) (i j : Nat) : upd (upd f i (f j)) j (f i) = sw f i j := by
  funext k
  unfold upd sw
  by_cases h1 : k = j
  · subst h1
    by_cases h2 : k = i
    · subst h2; simp
    · simp [h2]
  · by_cases h2 : k = i
    · simp [h1, h2]
      intro e
      rw [e]
    · simp [h1, h2]

theorem upd_sw2 (f : Nat → Vw) (i j : Nat) : upd (upd f j (f i)) i (f j) = sw f i j := by
  funext k
  unfold upd sw
  rfl

/-- Old blocks but two are kept. -/
structure Ko (hb g : Nat) (w w' : World) : Prop where
  os : w'.os = w.os
  tape : w'.tape = w.tape
  output : w'.output = w.output
  size : w.heap.size ≤ w'.heap.size
  block : ∀ k, k < w.heap.size → k ≠ hb → k ≠ g → w'.heap[k]? = w.heap[k]?

theorem Ko.refl (hb g : Nat) (w : World) : Ko hb g w w := ⟨rfl, rfl, rfl, Nat.le_refl _, fun _ _ _ _ => rfl⟩

theorem Ko.trans {hb g g1 : Nat} {w w1 w2 : World} (h : Ko hb g w w1) (k : Ko hb g1 w1 w2) (hg : g1 = g ∨ w.heap.size ≤ g1) : Ko hb g w w2 :=
  ⟨k.os.trans h.os, k.tape.trans h.tape, k.output.trans h.output, Nat.le_trans h.size k.size, fun i hi h1 h2 => by
    rw [k.block i (Nat.lt_of_lt_of_le hi h.size) h1 (by omega)]
    exact h.block i hi h1 h2⟩

theorem Ko.of {hb g : Nat} {w w1 : World} {row : Option Nat} (h : w.grownBy w1 row) (hr : row = some g ∨ row = some hb ∨ row = none) : Ko hb g w w1 :=
  ⟨h.os, h.tape, h.output, h.size, fun i hi h1 h2 => h.block i hi (by rcases hr with rfl | rfl | rfl <;> simp <;> omega)⟩

theorem Ko.under {hb g : Nat} {w w1 : World} (L : Below w.heap.size w w1) : Ko hb g w w1 := ⟨L.os, L.tape, L.output, L.size, fun i hi _ _ => L.block i hi⟩

theorem Ko.below {hb g B : Nat} {w w1 : World} (h : Ko hb g w w1) (h1 : B ≤ hb) (h2 : B ≤ g) (h3 : B ≤ w.heap.size) : Below B w w1 := ⟨h.os, h.tape, h.output, h.size, fun i hi => h.block i (by omega) (by omega) (by omega)⟩

/-- The heap: its box, and its row. -/
structure Hw (B hb g cap : Nat) (f : Nat → Vw) (n : Nat) (w : World) : Prop where
  box : w.heap[hb]? = some (.cells #[.slice (some ⟨g, 0, none⟩) n cap] 96 (0, 0))
  row : w.ownsRow B 61 3 (.slice (some ⟨g, 0, none⟩) n cap) n (vcells f n)

section
variable {B hb g cap n : Nat} {f : Nat → Vw} {w w1 : World}

theorem Hw.heap (h : Hw B hb g cap f n w) : ∃ cur, B ≤ g ∧ w.heap[g]? = some (.cells cur 61 (0, 0)) ∧ n ≤ cap ∧ cap ≤ maxLen := by
  obtain ⟨-, ⟨hv, -⟩ | ⟨g', cap', cur, hv, hb', hh, h1, h2, -⟩⟩ := h.row
  · cases hv
  · simp only [Value.slice.injEq, Option.some.injEq, Addr.mk.injEq] at hv
    obtain ⟨⟨rfl, -⟩, -, rfl⟩ := hv
    exact ⟨cur, hb', hh, h1, h2⟩

theorem Hw.lo (h : Hw B hb g cap f n w) : B ≤ g := by obtain ⟨_, h, -⟩ := h.heap; exact h
theorem Hw.lt (h : Hw B hb g cap f n w) : g < w.heap.size := by obtain ⟨_, -, h, -⟩ := h.heap; exact lt_of h
theorem Hw.ne (h : Hw B hb g cap f n w) : hb ≠ g := by
  intro e
  subst e
  obtain ⟨_, -, h2, -⟩ := h.heap
  rw [h.box] at h2
  simp only [Option.some.injEq, Obj.cells.injEq] at h2
  exact absurd h2.2.1 (by decide)
theorem Hw.cell (h : Hw B hb g cap f n w) : w.cell? ⟨hb, 0, none⟩ = some (.slice (some ⟨g, 0, none⟩) n cap) := cell_at h.box 0
theorem Hw.at (h : Hw B hb g cap f n w) {k : Nat} (hk : k < n) : w.cell? ⟨g, k * 3, none⟩ = some (.int .i64 (f k).s) ∧ w.cell? ⟨g, k * 3 + 1, none⟩ = some (.int .i64 (f k).y) ∧ w.cell? ⟨g, k * 3 + 2, none⟩ = some (.int .i64 ((f k).n : Int)) :=
  ⟨(own_cells h.row _ _ (vcells_at f hk).1).1, (own_cells h.row _ _ (vcells_at f hk).2.1).1, (own_cells h.row _ _ (vcells_at f hk).2.2).1⟩

theorem Hw.on (h : Hw B hb g cap f n w) (L : Below w.heap.size w w1) : Hw B hb g cap f n w1 :=
  ⟨kept L (lt_of h.box) h.box, own_kept h.row (row := none) ⟨L.os, L.tape, L.output, L.size, fun i hi _ => L.block i hi⟩ (fun g _ => by simp)⟩

/-- The row is another, of the same place. -/
theorem Hw.turn {f' : Nat → Vw} (h : Hw B hb g cap f n w) (G : w.grownBy w1 (some g)) (O : w1.ownsRow B 61 3 (.slice (some ⟨g, 0, none⟩) n cap) n (vcells f' n)) : Hw B hb g cap f' n w1 :=
  ⟨by rw [G.block hb (lt_of h.box) (by have := h.ne; simpa using this)]; exact h.box, O⟩

end

end Rd
end Go.Proofs.Ytfoccmhmgdengaa

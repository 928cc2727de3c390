/- Contracts of the program's writer of bits. -/
import Derived.Test.YtllmmelnkkmfoabPkRow
import Derived.Test.YtllmmelnkkmfoabMathBit
import Derived.BigRegion
import Derived.OneCell
namespace Go.Proofs.Ytllmmelnkkmfoab
namespace Pk
open Go.ChangeShapes Go.WideShapes Go.ChangeAt Go.RowKit
open Math (Bits bytesOf)
set_option linter.unusedSimpArgs false
set_option linter.unusedVariables false

/-- A block with a cell written. -/
theorem heap_set {w : World} {c i : Nat} {cs : Array Value} {t : TypeId} {f : Nat × Nat} (h : w.heap[c]? = some (.cells cs t f)) (u : Value) : (w.setCell ⟨c, i, none⟩ u).heap[c]? = some (.cells (cs.setIfInBounds i u) t f) := by
  unfold World.setCell
  simp [Array.getElem?_modify, h]

theorem heap_set_other {w : World} {c g i : Nat} {x : Obj} (h : w.heap[c]? = some x) (hne : c ≠ g) (u : Value) : (w.setCell ⟨g, i, none⟩ u).heap[c]? = some x := by
  rw [Below.heap_setCell w ⟨g, i, none⟩ u c hne]
  exact h

/-- A row with a cell of its own written. -/
theorem own_set {w : World} {base e g n cap i : Nat} {xs : List Value} (h : w.ownsRow base e 1 (.slice (some ⟨g, 0, none⟩) n cap) n xs) (hi : i < n) (u : Value) : (w.setCell ⟨g, i, none⟩ u).ownsRow base e 1 (.slice (some ⟨g, 0, none⟩) n cap) n (xs.set i u) := by
  obtain ⟨hl, h2⟩ := h
  rcases h2 with ⟨hv, -⟩ | ⟨g', cap', cur, hv, hg, hh, h1, h3, h4, h5⟩
  · cases hv
  · simp only [Value.slice.injEq, Option.some.injEq, Addr.mk.injEq] at hv
    obtain ⟨⟨rfl, -⟩, -, rfl⟩ := hv
    refine ⟨by rw [List.length_set]; exact hl, Or.inr ⟨g, cap, _, rfl, hg, heap_set hh u, h1, h3, by rw [Array.size_setIfInBounds]; exact h4, ?_⟩⟩
    rw [Array.toList_setIfInBounds, ← h5, List.take_set]

theorem own_block {w : World} {base e size g n cap : Nat} {xs : List Value} (h : w.ownsRow base e size (.slice (some ⟨g, 0, none⟩) n cap) n xs) : ∃ cur, w.heap[g]? = some (.cells cur e) := by
  obtain ⟨-, h2⟩ := h
  rcases h2 with ⟨hv, -⟩ | ⟨g', cap', cur, hv, hg, hh, -⟩
  · cases hv
  · simp only [Value.slice.injEq, Option.some.injEq, Addr.mk.injEq] at hv
    rw [hv.1.1]
    exact ⟨cur, hh⟩

theorem own_type {w : World} {base e size : Nat} {v : Value} {n : Nat} {xs : List Value} (h : w.ownsRow base e size v n xs) : ∀ g, v.ownBlock = some g → ∃ cur, w.heap[g]? = some (.cells cur e) := by
  obtain ⟨-, h2⟩ := h
  intro g hg
  rcases h2 with ⟨hv, -⟩ | ⟨g', cap', cur, hv, -, hh, -⟩
  · rw [hv] at hg
    cases hg
  · rw [hv] at hg
    simp only [Value.ownBlock, Option.some.injEq] at hg
    subst hg
    exact ⟨cur, hh⟩

theorem bcells_set (l : List UInt8) (i : Nat) (b : UInt8) : (bcells l).set i (.int .u8 (b.toNat : Int)) = bcells (l.set i b) := by simp [bcells, List.map_set]

theorem wrap_small (z : Nat) (h : z < 256) : wrap64 (z : Int) % 256 = (z : Int) := by
  unfold wrap64
  omega

theorem or_val (X b r : Nat) (hlow : X < 2 ^ r) (hsum : X + b * 2 ^ r < 256) : bits BinOp.or IntKind.u8 (X : Int) (wrap64 ((b : Int) * 2 ^ r) % 256) = ((UInt8.ofNat (X + b * 2 ^ r)).toNat : Int) := by
  have e4 : (b : Int) * 2 ^ r = ((b * 2 ^ r : Nat) : Int) := by simp
  rw [e4, wrap_small _ (by omega), Math.bits_or_u8 X (b * 2 ^ r) (by omega) (by omega), Math.or_low X b r hlow, UInt8.toNat_ofNat', Nat.mod_eq_of_lt hsum]

theorem or_zero (b : Nat) (hb : b ≤ 1) : bits BinOp.or IntKind.u8 0 (b : Int) = ((UInt8.ofNat b).toNat : Int) := by
  have h := Math.bits_or_u8 0 b (by omega) (by omega)
  rw [Nat.zero_or] at h
  rw [UInt8.toNat_ofNat', Nat.mod_eq_of_lt (by omega)]
  exact h

theorem set_last (l : List UInt8) (x y : UInt8) (q : Nat) (h : l.length = q) : (l ++ [x]).set q y = l ++ [y] := by
  subst h
  simp

theorem bit_shift (n i : Nat) (hn : n < 4294967296) : bits BinOp.and IntKind.i64 ((n : Int) / 2 ^ i) 1 = ((n / 2 ^ i % 2 : Nat) : Int) := by
  have e : (n : Int) / 2 ^ i = ((n / 2 ^ i : Nat) : Int) := by simp
  rw [e]
  exact Math.and_one_i64 _ (Nat.lt_of_le_of_lt (Nat.div_le_self _ _) (by omega))

end Pk
end Go.Proofs.Ytllmmelnkkmfoab

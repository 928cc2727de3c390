/- Contracts of Whole, of the program and of its model. -/
import Derived.Test.YtllmmelnkkmfoajDoorPkRow
import Derived.Test.YtllmmelnkkmfoajDoorMathWhole
namespace Go.Proofs.YtllmmelnkkmfoajDoor
namespace Pk
open Go.ChangeShapes Go.WideShapes Go.ChangeAt Go.RowKit
open Math (Pc)
set_option linter.unusedSimpArgs false
set_option linter.unusedVariables false

/-- A piece as a value. -/
abbrev pcV (x n d : Int) : Value := .agg #[.int .i64 x, .int .i64 n, .int .i64 d]

/-- A slice of pieces. -/
def Pcs (w : World) (a : Option Addr) (ps : List Pc) : Prop :=
  ps = [] ∨ ∃ b o, a = some ⟨b, o, none⟩ ∧ b < w.heap.size ∧ ∀ i (h : i < ps.length), w.cell? ⟨b, o + i * 3, none⟩ = some (.int .i64 ps[i].x) ∧ w.cell? ⟨b, o + i * 3 + 1, none⟩ = some (.int .i64 ps[i].n) ∧ w.cell? ⟨b, o + i * 3 + 2, none⟩ = some (.int .i64 ps[i].d)

theorem Pcs.on {w w1 : World} {a : Option Addr} {ps : List Pc} (h : Pcs w a ps) (L : Below w.heap.size w w1) : Pcs w1 a ps := by
  rcases h with h | ⟨b, o, ha, hb, hc⟩
  · exact Or.inl h
  · exact Or.inr ⟨b, o, ha, Nat.lt_of_lt_of_le hb L.size, fun i hi => by rw [L.cell (p := ⟨b, o + i * 3, none⟩) hb, L.cell (p := ⟨b, o + i * 3 + 1, none⟩) hb, L.cell (p := ⟨b, o + i * 3 + 2, none⟩) hb]; exact hc i hi⟩

theorem Pcs.at {w : World} {a : Option Addr} {ps : List Pc} (h : Pcs w a ps) (k : Nat) (hk : k < ps.length) : ∃ b o, a = some ⟨b, o, none⟩ ∧ b < w.heap.size ∧ w.cell? ⟨b, o + k * 3, none⟩ = some (.int .i64 ps[k].x) ∧ w.cell? ⟨b, o + k * 3 + 1, none⟩ = some (.int .i64 ps[k].n) ∧ w.cell? ⟨b, o + k * 3 + 2, none⟩ = some (.int .i64 ps[k].d) := by
  rcases h with h | ⟨b, o, ha, hb, hc⟩
  · subst h; simp at hk
  · exact ⟨b, o, ha, hb, hc k hk⟩

theorem u8_of (x : Int) (h0 : 0 ≤ x) (h1 : x ≤ 255) : ((UInt8.ofNat x.toNat).toNat : Int) = x := by
  rw [UInt8.toNat_ofNat']
  omega

/-- A text and whether it is one, as a result. -/
abbrev t2 (s : ByteArray) (b : Bool) : Value := .tuple #[.string s, .bool b]

end Pk
end Go.Proofs.YtllmmelnkkmfoajDoor

/- Contracts of MarkText and ReadMark, of the program and of the model. -/
import Derived.Test.YtllmmelnkkmfoabDoorNumWord
import Derived.Deep.RegionWith
namespace Go.Proofs.YtllmmelnkkmfoabDoor
namespace Num
open Go.ChangeShapes Go.WideShapes Go.ChangeAt Go.RowKit
set_option linter.unusedSimpArgs false
set_option linter.unusedVariables false

/-- Whether a number is a word. -/
def wideB (x : Int) : Bool := decide (0 ≤ x ∧ x ≤ 4294967295)

/-- What MarkText answers. -/
def markS (r s : Int) : ByteArray := if (wideB r && wideB s) = true then wordS r.toNat ++ wordS s.toNat else ⟨#[]⟩

theorem markS_yes {r s : Int} (h : (wideB r && wideB s) = true) : markS r s = wordS r.toNat ++ wordS s.toNat := if_pos h

theorem markS_no {r s : Int} (h : (wideB r && wideB s) = false) : markS r s = ⟨#[]⟩ := if_neg (by rw [h]; simp)

theorem cells2 {w w1 : World} {p q : Int} {t : TypeId} (L : Below (w.alloc (.cells #[.int .i64 p, .int .i64 q] t)).heap.size (w.alloc (.cells #[.int .i64 p, .int .i64 q] t)) w1) :
    w1.cell? ⟨w.heap.size, 0, none⟩ = some (.int .i64 p) ∧ w1.cell? ⟨w.heap.size, 1, none⟩ = some (.int .i64 q) := by
  refine ⟨?_, ?_⟩
  · rw [L.cell (by simp)]; exact World.cell?_alloc_mark _ _ _ _ 0
  · rw [L.cell (by simp)]; exact World.cell?_alloc_mark _ _ _ _ 1

theorem undrew {X w3 : World} (L : Below X.drew.heap.size X.drew w3) : Below X.heap.size X w3 := (Below.refl X.heap.size X).drew.trans L

end Num
end Go.Proofs.YtllmmelnkkmfoabDoor

/- The numbers behind a word: the model's l04Nums. -/
import Derived.Test.YtdfejmaekdgcdasDoorGtSplit
import Derived.Test.YtdfejmaekdgcdasDoorNumRead
namespace Go.Proofs.YtdfejmaekdgcdasDoor
namespace Gt
open Go.ChangeShapes Go.WideShapes Go.ChangeAt Go.RowKit
open Pk (own_at own_ge own_below info_of new_below join_below heap_new info_int icells icells_snoc lt_of kept cell_at heap_old)
set_option linter.unusedSimpArgs false
set_option linter.unusedVariables false

/-- A word that tells a number. -/
abbrev Rd (x : ByteArray) : Prop := Math.ReadOk x.data.toList

/-- The number that a word tells. -/
abbrev vl (x : ByteArray) : Nat := Math.val x.data.toList

/-- A line is a word and n numbers. -/
def NumsOk (line head : ByteArray) (n : Nat) : Prop := (split 32 line).head? = some head ∧ (split 32 line).length = n + 1 ∧ ∀ x ∈ (split 32 line).tail, Rd x

/-- The numbers of a line. -/
def numsL (line : ByteArray) : List Nat := (split 32 line).tail.map vl

theorem vl_bd {x : ByteArray} (h : Rd x) : vl x ≤ 999999999 := Math.val_bd _ h.1 h.2.2.1

theorem tail_get {l : List ByteArray} {k : Nat} (h : k + 1 < l.length) : l.tail[k]? = some l[k + 1] := by
  cases l with
  | nil => simp at h
  | cons a l => simp at h; simp [h]

/-- The first k numbers of words behind the first. -/
def fstN (l : List ByteArray) (k : Nat) : List Nat := (l.tail.take k).map vl

theorem fstN_step {l : List ByteArray} {k : Nat} (h : k + 1 < l.length) : fstN l (k + 1) = fstN l k ++ [Math.val l[k + 1].data.toList] := by
  have hk : k < l.tail.length := by rw [List.length_tail]; omega
  unfold fstN
  rw [List.take_succ_eq_append_getElem hk, List.map_append]
  have := tail_get h
  rw [List.getElem?_eq_getElem hk] at this
  rw [Option.some.inj this]
  rfl

theorem fstN_all {l : List ByteArray} {k : Nat} (h : l.length ≤ k + 1) : fstN l k = l.tail.map vl := by
  unfold fstN
  rw [List.take_of_length_le (by rw [List.length_tail]; omega)]

end Gt
end Go.Proofs.YtdfejmaekdgcdasDoor

/- Texts put together by copy, records, logs that they are put behind, and logs that are torn: the program. -/
import Derived.Test.YtdfejmaekdgcdasLgRec
import Derived.Test.YtdfejmaekdgcdasLgSame
import Derived.Test.YtdfejmaekdgcdasSqRow
import Derived.Test.YtdfejmaekdgcdasShelf
import Derived.Laws.CopyRow
import Derived.Laws.CopyOwn
namespace Go.Proofs.Ytdfejmaekdgcdas
namespace Lg10
open Go.ChangeShapes Go.WideShapes Go.ChangeAt Go.RowKit
open Pk (new_below join_below bcells bcells_length cell_at lt_of)
open Gt (Txts)
set_option linter.unusedSimpArgs false
set_option linter.unusedVariables false

/-- The bytes of texts one behind the other. -/
def catL (ts : List ByteArray) : List UInt8 := ts.flatMap fun t => t.data.toList

/-- How many bytes the first k texts have. -/
def catN (ts : List ByteArray) (k : Nat) : Nat := (catL (ts.take k)).length

theorem catN_zero (ts : List ByteArray) : catN ts 0 = 0 := rfl

theorem cat_step (ts : List ByteArray) (k : Nat) (h : k < ts.length) : catL (ts.take (k + 1)) = catL (ts.take k) ++ ts[k].data.toList := by
  unfold catL
  rw [List.take_succ_eq_append_getElem h, List.flatMap_append]
  simp

theorem catN_step (ts : List ByteArray) (k : Nat) (h : k < ts.length) : catN ts (k + 1) = catN ts k + ts[k].size := by
  unfold catN
  rw [cat_step ts k h, List.length_append, Array.length_toList]
  rfl

theorem catN_le (ts : List ByteArray) : ∀ (d k : Nat), k + d = ts.length → catN ts k ≤ catN ts ts.length
  | 0, k, h => by rw [show k = ts.length from by omega]; exact Nat.le_refl _
  | d + 1, k, h => by
    have := catN_le ts d (k + 1) (by omega)
    rw [catN_step ts k (by omega)] at this
    omega

theorem catN_all (ts : List ByteArray) : catN ts ts.length = (catL ts).length := by unfold catN; rw [List.take_length]

theorem bc_append (a b : List UInt8) : bcells (a ++ b) = bcells a ++ bcells b := by simp [bcells]

/-- A text copied to a place in a row of bytes. -/
theorem copy_text (W : World) (ty : TypeId) (g o dLen dCap : Nat) (s : ByteArray) (cur : List Value) (hg : W.heap[g]? = some (.cells cur.toArray 5 (0, 0))) (hle : s.size ≤ dLen) (hfit : o + s.size ≤ cur.length) :
    (Builtin.copy_ #[25, 9] ty #[.slice (some ⟨g, o, none⟩) dLen dCap, .string s]).run Try.prog W = .ok (.int .i64 (s.size : Int)) (W.setRow g (cur.take o ++ bcells s.data.toList ++ cur.drop (o + s.size)).toArray) := by
  have hsz1 : (Try.prog.info? 5).map (·.size) = some 1 := by kernel_rfl
  have hln : (bcells s.data.toList).length = s.size := by rw [bcells_length, Array.length_toList]; rfl
  have h1 : ∀ v ∈ bcells s.data.toList, v.oneCell' = true := fun v hv => by
    obtain ⟨b, -, rfl⟩ := List.mem_map.1 hv
    rfl
  have hst := run_storeCells_at Try.prog g o 5 (bcells s.data.toList) 0 cur.toArray W hg (by rw [hln]; simpa using hfit) h1
  rw [hln, Nat.add_zero] at hst
  have hmin : Nat.min s.size dLen = s.size := Nat.min_eq_left hle
  have htk : List.take s.size (List.map (fun b : UInt8 => Value.int IntKind.u8 (b.toNat : Int)) s.data.toList) = bcells s.data.toList := by
    rw [List.take_of_length_le (by rw [List.length_map, Array.length_toList]; exact Nat.le_refl _)]
    rfl
  cases hq : Try.prog.info? 5 with
  | none => simp [hq] at hsz1
  | some i =>
    simp [Builtin.copy_, run_underlying Try.underlying25, Builtin.lenOf, Builtin.firstCells, sizeOf, typeInfo, hq, hmin]
    rw [htk, hst]
    simp [Result.andThen, goInt]

theorem copy_nothing (W : World) (ty : TypeId) (d : Option Addr) (dLen dCap : Nat) (s : ByteArray) (h0 : s.size = 0) :
    (Builtin.copy_ #[25, 9] ty #[.slice d dLen dCap, .string s]).run Try.prog W = .ok (.int .i64 0) W := by
  have hsz1 : (Try.prog.info? 5).map (·.size) = some 1 := by kernel_rfl
  cases hq : Try.prog.info? 5 with
  | none => simp [hq] at hsz1
  | some i =>
    cases d <;> simp [Builtin.copy_, run_underlying Try.underlying25, Builtin.lenOf, Builtin.firstCells, sizeOf, typeInfo, hq, h0, storeCells, goInt]

/-- What a text's copy leaves: the bytes so far and its own. -/
theorem filled {cur : List Value} {a : List UInt8} {s : ByteArray} {o : Nat} (ha : a.length = o) (hc : cur.take o = bcells a) (hf : o + s.size ≤ cur.length) : (cur.take o ++ bcells s.data.toList ++ cur.drop (o + s.size)).take (o + s.size) = bcells (a ++ s.data.toList) ∧ (cur.take o ++ bcells s.data.toList ++ cur.drop (o + s.size)).length = cur.length := by
  have hs : (bcells s.data.toList).length = s.size := by rw [bcells_length, Array.length_toList]; rfl
  have h1 : (cur.take o ++ bcells s.data.toList).length = o + s.size := by rw [List.length_append, List.length_take, hs]; omega
  constructor
  · rw [List.take_append_of_le_length (by omega), List.take_of_length_le (by omega), hc, bc_append]
  · rw [List.length_append, h1, List.length_drop]
    omega

theorem cell_list (W : World) (l : List Value) (t : TypeId) (j : Nat) : (W.alloc (.cells l.toArray t)).cell? ⟨W.heap.size, j, none⟩ = l[j]? := by
  rw [Pk.cell_at (Pk.heap_new W (.cells l.toArray t)) j]
  simp

theorem new_txts3 (W : World) (a b c : ByteArray) : Txts (W.alloc (.cells #[.string a, .string b, .string c] 9)) (.slice (some ⟨W.heap.size, 0, none⟩) 3 3) [a, b, c] := by
  refine ⟨some ⟨W.heap.size, 0, none⟩, 3, rfl, Or.inr ⟨W.heap.size, rfl, by simp, fun i hi => ?_⟩⟩
  rw [Pk.cell_at (Pk.heap_new W (.cells #[.string a, .string b, .string c] 9)) i]
  match i, hi with
  | 0, _ => rfl
  | 1, _ => rfl
  | 2, _ => rfl

theorem new_txts2 (W : World) (a b : ByteArray) : Txts (W.alloc (.cells #[.string a, .string b] 9)) (.slice (some ⟨W.heap.size, 0, none⟩) 2 2) [a, b] := by
  refine ⟨some ⟨W.heap.size, 0, none⟩, 2, rfl, Or.inr ⟨W.heap.size, rfl, by simp, fun i hi => ?_⟩⟩
  rw [Pk.cell_at (Pk.heap_new W (.cells #[.string a, .string b] 9)) i]
  match i, hi with
  | 0, _ => rfl
  | 1, _ => rfl

theorem cat2 (a b : ByteArray) : (⟨(catL [a, b]).toArray⟩ : ByteArray) = a ++ b := by
  apply ByteArray.ext
  show (catL [a, b]).toArray = (a ++ b).data
  rw [ByteArray.data_append]
  simp [catL]

theorem cat3 (a b c : ByteArray) : (⟨(catL [a, b, c]).toArray⟩ : ByteArray) = a ++ b ++ c := by
  apply ByteArray.ext
  show (catL [a, b, c]).toArray = (a ++ b ++ c).data
  rw [ByteArray.data_append, ByteArray.data_append]
  simp [catL]

theorem clone_val (s : ByteArray) (w : World) (hs : s.size ≤ 1048576) :
    Calls Try.prog 6 #[.string s] w fun e w' => e = .returned (.string s) ∧ Below w.heap.size w w' := by
  have HC : Hid (∀ W, _) := fun W => Try.stringslite_Clone s W (by omega)
  go_enter Try.func6, Try.ntmps6
  go_wp2_with fail
  refine (HC.out _).mono ?_
  rintro e w1 ⟨rfl, L1⟩
  go_wp2
  go_ret
  exact ⟨rfl, L1⟩

theorem torn_is (l : ByteArray) (n : Int) : tornS l n = l.extract 0 (min (max n 0) (l.size : Int)).toNat := by
  unfold tornS
  by_cases h0 : n < 0
  · rw [if_pos h0, show (min (max n 0) (l.size : Int)).toNat = 0 from by omega]
    apply ByteArray.ext
    rw [ByteArray.data_extract]
    simp
  · rw [if_neg h0]
    by_cases h1 : (l.size : Int) < n
    · rw [if_pos h1, show (min (max n 0) (l.size : Int)).toNat = l.size from by omega]
      apply ByteArray.ext
      rw [ByteArray.data_extract]
      exact (Array.extract_size (xs := l.data)).symm
    · rw [if_neg h1, show (min (max n 0) (l.size : Int)).toNat = n.toNat from by omega]

theorem implTorn_val (l : ByteArray) (n : Int) (w : World) (hl : l.size ≤ 1048576) :
    Calls Try.prog 5 #[.string l, .int .i64 n] w fun e w' => e = .returned (.string (tornS l n)) ∧ Below w.heap.size w w' := by
  rw [torn_is]
  have HC : Hid (∀ W, _) := fun W => clone_val (l.extract 0 (min (max n 0) (l.size : Int)).toNat) W (by rw [ByteArray.size_extract]; omega)
  generalize hR : l.extract 0 (min (max n 0) (l.size : Int)).toNat = R at *
  go_enter Try.func5, Try.ntmps5
  go_wp2_with fail
  refine (HC.out _).mono ?_
  rintro e w1 ⟨rfl, L1⟩
  go_wp2
  go_ret
  exact ⟨rfl, L1⟩

end Lg10
end Go.Proofs.Ytdfejmaekdgcdas

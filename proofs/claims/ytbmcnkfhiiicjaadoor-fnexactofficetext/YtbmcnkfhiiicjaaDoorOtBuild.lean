/- A text that is built piece by piece: the contracts of strings.Builder at this program. -/
import Derived.Test.YtbmcnkfhiiicjaaDoorShelf
import Derived.Test.YtbmcnkfhiiicjaaDoorPkRow
import Derived.Laws.Externs
import Derived.Lib.Builder
import Derived.Lib.AppendStr
namespace Go.Proofs.YtbmcnkfhiiicjaaDoor
namespace Ot
open Go.ChangeShapes Go.WideShapes Go.ChangeAt Go.RowKit
set_option linter.unusedSimpArgs false
set_option linter.unusedVariables false

theorem size_bd : (Tryd.prog.info? 64).map (fun i => i.size) = some 2 := by kernel_rfl

theorem lies_bd : liesAt Tryd.prog Tryd.prog.depth 64 (2 / Tryd.prog.cellsOf 64) 0 64 1 = true := by kernel_rfl

theorem byte_bd : (Tryd.prog.info? 5).map (fun i => (i.zero, i.size, i.bytes)) = some (some (.int .u8 0), 1, 1) := by kernel_rfl

theorem esc_bd (x : Value) (w : World) : (callFunc 48 #[x]).run Tryd.prog w = .ok (.value x) w := by
  rw [run_callFunc_extern Tryd.func48 (by kernel_rfl) (by kernel_rfl) (by kernel_rfl) (e := Extern.AbiNoEscape.same) (by kernel_rfl)]
  rfl

theorem own_blocks {w w1 : World} {base e size : Nat} {v : Value} {n : Nat} {xs : List Value} (h : w.ownsRow base e size v n xs) (hs : w.heap.size ≤ w1.heap.size) (hk : ∀ k, v.ownBlock = some k → w1.heap[k]? = w.heap[k]?) : w1.ownsRow base e size v n xs := by
  obtain ⟨h1, h2⟩ := h
  refine ⟨h1, ?_⟩
  rcases h2 with h2 | ⟨g, cap, cur, hv, hg, hh, hr⟩
  · exact Or.inl h2
  · refine Or.inr ⟨g, cap, cur, hv, hg, ?_, hr⟩
    rw [hk g (by rw [hv]; rfl)]
    exact hh

theorem bd_set {w : World} {c i : Nat} {cs : Array Value} {t : TypeId} {f : Nat × Nat} (h : w.heap[c]? = some (.cells cs t f)) (u : Value) : (w.setCell ⟨c, i, none⟩ u).heap[c]? = some (.cells (cs.setIfInBounds i u) t f) := by
  unfold World.setCell
  simp [Array.getElem?_modify, h]

/-- A builder at the block b: its buffer v holds the text t. -/
structure Bw (B b : Nat) (v : Value) (t : ByteArray) (w : World) : Prop where
  le : B ≤ b
  fst : ∃ p, (p = .pointer none ∨ p = .pointer (some ⟨b, 0, none⟩)) ∧ w.heap[b]? = some (.cells #[p, v] 64 (0, 0))
  own : w.ownsRow B 5 1 v t.size (Lib.byteCells t.data.toList)
  ne : v.ownBlock ≠ some b

theorem cells_size (t : ByteArray) : (Lib.byteCells t.data.toList).length = t.size := by rw [Lib.byteCells_length, Array.length_toList]; rfl

theorem Bw.is {B b : Nat} {v : Value} {t : ByteArray} {w : World} (h : Bw B b v t w) : Lib.IsBuilder 64 5 B b (Lib.byteCells t.data.toList) w := by
  obtain ⟨p, hp, hh⟩ := h.fst
  have ho := h.own
  rw [← cells_size t] at ho
  rcases hp with rfl | rfl
  · exact Or.inl ⟨h.le, v, hh, ho, h.ne⟩
  · exact Or.inr ⟨h.le, v, hh, ho, h.ne⟩

theorem Bw.on {B b : Nat} {v : Value} {t : ByteArray} {w w1 : World} (h : Bw B b v t w) (L : Below w.heap.size w w1) : Bw B b v t w1 := by
  obtain ⟨p, hp, hh⟩ := h.fst
  exact ⟨h.le, ⟨p, hp, by rw [L.block b (Pk.lt_of hh)]; exact hh⟩, Pk.own_below h.own L (Nat.le_refl _), h.ne⟩

theorem Bw.drew {B b : Nat} {v : Value} {t : ByteArray} {w : World} (h : Bw B b v t w) : Bw B b v t w.drew := ⟨h.le, h.fst, h.own, h.ne⟩

theorem Bw.at_lt {B b : Nat} {v : Value} {t : ByteArray} {w : World} (h : Bw B b v t w) : b < w.heap.size := by obtain ⟨p, -, hh⟩ := h.fst; exact Pk.lt_of hh

theorem Bw.new (w : World) : Bw w.heap.size w.heap.size (.slice none 0 0) ⟨#[]⟩ (w.alloc (.cells #[.pointer none, .slice none 0 0] 64)) :=
  ⟨Nat.le_refl _, ⟨_, Or.inl rfl, Pk.heap_new w _⟩, ⟨rfl, Or.inl ⟨rfl, rfl⟩⟩, by simp [Value.ownBlock]⟩

/-- The block of the buffer is one of the world's. -/
theorem Bw.lt {B b : Nat} {v : Value} {t : ByteArray} {w : World} (h : Bw B b v t w) (k : Nat) (hk : v.ownBlock = some k) : k < w.heap.size := (h.own.lt k hk).2

theorem copyCheck_val (B b : Nat) (v : Value) (t : ByteArray) (w : World) (h : Bw B b v t w) :
    Calls Tryd.prog 37 #[.pointer (some ⟨b, 0, none⟩)] w fun e w' => e = .returned (.tuple #[]) ∧ w'.heap[b]? = some (.cells #[.pointer (some ⟨b, 0, none⟩), v] 64 (0, 0)) ∧ (∀ k, k ≠ b → w'.heap[k]? = w.heap[k]?) ∧ w'.heap.size = w.heap.size ∧ Below B w w' := by
  obtain ⟨j, hj, hjs⟩ := Option.map_eq_some_iff.1 size_bd
  have hne : ∀ W : World, (binOp .neq 62 (.pointer (some ⟨b, 0, none⟩)) (.pointer (some ⟨b, 0, none⟩))).run Tryd.prog W = .ok (.bool false) W := fun W => Lib.run_neq_ptr_same W _ Tryd.underlying62 hj
  obtain ⟨p, hp, hh⟩ := h.fst
  have hB := h.le
  rcases hp with rfl | rfl
  · have c0 : w.cell? ⟨b, 0, none⟩ = some (.pointer none) := Pk.cell_at hh 0
    have f0 := Pk.frozen_at hh 0
    have hsh : w.shape? b = some (64, 2) := by unfold World.shape?; rw [hh]; rfl
    have hto : (convert 62 107 (.pointer (some ⟨b, 0, none⟩))).run Tryd.prog w = .ok (.pointer (some ⟨b, 0, none⟩)) w := Lib.run_to_unsafe w ⟨b, 0, none⟩ Tryd.underlying62 Tryd.underlying107 hj (by rw [hjs]; decide) hsh (Nat.zero_lt_succ 1)
    have hfr : (convert 107 62 (.pointer (some ⟨b, 0, none⟩))).run Tryd.prog w = .ok (.pointer (some ⟨b, 0, none⟩)) w := Lib.run_from_unsafe w ⟨b, 0, none⟩ Tryd.underlying107 Tryd.underlying62 hj hsh lies_bd
    have hes := esc_bd (.pointer (some ⟨b, 0, none⟩))
    have HH : Hid (w.heap[b]? = some (.cells #[.pointer none, v] 64 (0, 0))) := hh
    clear h hh
    go_enter Tryd.func37, Tryd.ntmps37
    go_wp2
    go_end0
    refine ⟨rfl, ?_, fun k hk => Below.heap_setCell _ _ _ _ hk, by rw [World.size_setCell], (Below.refl B w).setCell (p := ⟨b, 0, none⟩) hB _⟩
    exact bd_set (w := w) (i := 0) HH.out (.pointer (some ⟨b, 0, none⟩))
  · have c0 : w.cell? ⟨b, 0, none⟩ = some (.pointer (some ⟨b, 0, none⟩)) := Pk.cell_at hh 0
    have HH : Hid (w.heap[b]? = some (.cells #[.pointer (some ⟨b, 0, none⟩), v] 64 (0, 0))) := hh
    clear h hh
    go_enter Tryd.func37, Tryd.ntmps37
    go_wp2
    go_end0
    exact ⟨rfl, HH.out, fun _ _ => rfl, rfl, Below.refl B _⟩

theorem write_val (B b : Nat) (v : Value) (t s : ByteArray) (w : World) (h : Bw B b v t w) (hlen : t.size + s.size ≤ 140737488355328) (hBw : B ≤ w.heap.size) :
    Calls Tryd.prog 21 #[.pointer (some ⟨b, 0, none⟩), .string s] w fun e w' => e = .returned (.tuple #[.int .i64 s.size, .nilIface]) ∧ (∃ v', Bw B b v' (t ++ s) w') ∧ Below B w w' ∧ ∀ k, k < w.heap.size → k ≠ b → v.ownBlock ≠ some k → w'.heap[k]? = w.heap[k]? := by
  obtain ⟨i0, hi, hz0, hz1, hz2⟩ := info_parts byte_bd
  have hm : t.size + s.size ≤ maxLen := by unfold maxLen; omega
  have hb0 : b < w.heap.size := by obtain ⟨p, -, hh⟩ := h.fst; exact Pk.lt_of hh
  have HH : Hid (∀ _ : Unit, _) := fun _ => h
  clear h
  go_enter Tryd.func21, Tryd.ntmps21
  go_wp2_with fail
  refine (copyCheck_val B b v t _ (HH.out ())).mono ?_
  rintro e w1 ⟨rfl, hbk, hk1, hs1, hb1⟩
  have hB := (HH.out ()).le
  have hne := (HH.out ()).ne
  have hown : w1.ownsRow B 5 1 v t.size (Lib.byteCells t.data.toList) := by
    refine own_blocks (HH.out ()).own (by rw [hs1]; exact Nat.le_refl _) fun k hk => hk1 k ?_
    intro e
    subst e
    exact hne hk
  have c1 : w1.cell? ⟨b, 1, none⟩ = some v := Pk.cell_at hbk 1
  have hw1 : B ≤ w1.heap.size := by rw [hs1]; exact hBw
  have HS1 : Hid (w1.heap.size = w.heap.size) := hs1
  clear hs1
  go_wp2_with (at_builtin; refine Lib.wpList_append_own_string _ rfl _ _ 46 9 rfl B 5 i0 Tryd.underlying46 Tryd.underlying9 hi hz0 hz1 hz2 _ _ _ rfl hown s rfl ?c3 ?c4 ?c5 ?_)
  case c3 => exact hm
  case c4 => exact hlen
  case c5 => exact hw1
  intro v' w2 hown' hgrow _
  have hlt : b < w1.heap.size := Pk.lt_of hbk
  have hb2 : w2.heap[b]? = some (.cells #[.pointer (some ⟨b, 0, none⟩), v] 64 (0, 0)) := by rw [hgrow.block b hlt (fun e => hne e.symm)]; exact hbk
  have d1 : w2.cell? ⟨b, 1, none⟩ = some v := Pk.cell_at hb2 1
  have f1 := Pk.frozen_at hb2 1
  obtain ⟨ao, n', cap, rfl⟩ : ∃ ao n' cap, v' = .slice ao n' cap := by
    rcases hown'.2 with ⟨hv, _⟩ | ⟨g, cap, cur, hv, _⟩
    · exact ⟨_, _, _, hv⟩
    · exact ⟨_, _, _, hv⟩
  have HL : Hid (Below B w (w2.setCell ⟨b, 1, none⟩ (.slice ao n' cap))) := (hb1.grown hgrow hw1 (fun k hk => (hown.lt k hk).1)).setCell (p := ⟨b, 1, none⟩) hB _
  have HK : Hid (∀ k, k < w.heap.size → k ≠ b → v.ownBlock ≠ some k → (w2.setCell ⟨b, 1, none⟩ (.slice ao n' cap)).heap[k]? = w.heap[k]?) := by
    intro k h1 h2 h3
    rw [Below.heap_setCell _ _ _ _ h2, hgrow.block k (by rw [HS1.out]; exact h1) (fun e => h3 e.symm), hk1 k h2]
  have HB : Hid (∃ v', Bw B b v' (t ++ s) (w2.setCell ⟨b, 1, none⟩ (.slice ao n' cap))) := by
    have e1 : Lib.byteCells (t ++ s).data.toList = Lib.byteCells t.data.toList ++ Lib.strCells s := by rw [Lib.strCells_eq]; simp [Lib.byteCells]
    have e2 : (t ++ s).size = t.size + s.size := ByteArray.size_append
    have hput := Lib.BuilderAt.put (T := 64) (e := 5) hB hb2 (bs' := Lib.byteCells t.data.toList ++ Lib.strCells s) (v' := .slice ao n' cap) (by simpa [Lib.strCells_length, cells_size] using hown') (by decide)
    obtain ⟨-, v9, q1, q2, q3⟩ := hput
    refine ⟨v9, hB, ⟨_, Or.inr rfl, q1⟩, ?_, q3⟩
    rw [e1, e2]
    have e3 : (Lib.byteCells t.data.toList ++ Lib.strCells s).length = t.size + s.size := by rw [List.length_append, cells_size, Lib.strCells_length]
    rw [e3] at q2
    exact q2
  clear hown hown' hgrow hb1 hbk hb2 hk1
  go_wp2
  go_ret2
  exact ⟨rfl, HB.out, HL.out, HK.out⟩

end Ot
end Go.Proofs.YtbmcnkfhiiicjaaDoor

/- A row of bytes of one's own that a text was turned into, and that is appended to. -/
import Derived.Test.YtbmcnkfhiiicjaaDoorOtBuild
import Derived.Deep.Upon
import Derived.Laws.IdiomStrings
import Derived.Lib.SlBuf
namespace Go.Proofs.YtbmcnkfhiiicjaaDoor
namespace Ot
open Go.ChangeShapes Go.WideShapes Go.ChangeAt Go.RowKit
set_option linter.unusedSimpArgs false
set_option linter.unusedVariables false

/-- The bytes t lie in a row of their own, in a block not below B. -/
def Rw (B : Nat) (v : Value) (t : ByteArray) (w : World) : Prop :=
  ∃ g cap, v = .slice (some ⟨g, 0, none⟩) t.size cap ∧ B ≤ g ∧ g < w.heap.size ∧ t.size ≤ cap ∧ cap ≤ maxLen ∧ (∀ j (h : j < t.size), w.cell? ⟨g, j, none⟩ = some (.int .u8 (t[j].toNat : Int))) ∧ ∀ j, j < cap → (w.cell? ⟨g, j, none⟩).isSome = true ∧ w.frozen? ⟨g, j, none⟩ = false

theorem Rw.on {B : Nat} {v : Value} {t : ByteArray} {w w1 : World} (h : Rw B v t w) (L : Below w.heap.size w w1) : Rw B v t w1 := by
  obtain ⟨g, cap, hv, hB, hg, h1, h2, h3, h4⟩ := h
  refine ⟨g, cap, hv, hB, Nat.lt_of_lt_of_le hg L.size, h1, h2, fun j hj => ?_, fun j hj => ?_⟩
  · rw [L.cell (p := ⟨g, j, none⟩) hg]; exact h3 j hj
  · rw [L.cell (p := ⟨g, j, none⟩) hg, L.frozen (p := ⟨g, j, none⟩) hg]; exact h4 j hj

theorem Rw.drew {B : Nat} {v : Value} {t : ByteArray} {w : World} (h : Rw B v t w) : Rw B v t w.drew := h

theorem Rw.form {B : Nat} {v : Value} {t : ByteArray} {w : World} (h : Rw B v t w) : ∃ g cp, v = .slice (some ⟨g, 0, none⟩) t.size cp ∧ g < w.heap.size ∧ Rw B (.slice (some ⟨g, 0, none⟩) t.size cp) t w := by
  have h' := h
  obtain ⟨g, cap, rfl, -, hg, -⟩ := h
  exact ⟨g, cap, rfl, hg, h'⟩

/-- A text turned into bytes. -/
theorem rw_of (w : World) (s : ByteArray) (hs : s.size ≤ maxLen) : ∃ v w1, (convert 9 46 (.string s)).run Tryd.prog w = .ok v w1 ∧ Rw w.heap.size v s w1 ∧ Below w.heap.size w w1 := by
  have hge := grownCap_ge w s.size 0 5
  have hle := grownCap_le_maxLen w s.size 0 5 hs
  refine ⟨_, _, run_bytes_of_string w 9 46 5 s Tryd.underlying9 Tryd.underlying46 Tryd.underlying5, ⟨w.heap.size, _, rfl, Nat.le_refl _, by simp, hge, hle, ?_, ?_⟩, ((Below.refl _ _).drew).alloc (Nat.le_refl _) _⟩
  · intro j hj
    generalize grownCap w s.size 0 5 = cp
    have hd : w.drew.heap.size = w.heap.size := rfl
    rw [← hd, World.cell?_alloc_mark, bytesRow_at s _ j hj]
    rfl
  · intro j hj
    generalize grownCap w s.size 0 5 = cp at *
    have hsz : (bytesRow s cp).size = cp := by
      unfold bytesRow
      rw [Array.size_append, Array.size_map, Array.size_replicate]
      show s.size + _ = _
      omega
    have hh : (w.drew.alloc (.cells (bytesRow s cp) 5 ((bytesRow s cp).size, (bytesRow s cp).size + 1))).heap[w.heap.size]? = some (.cells (bytesRow s cp) 5 ((bytesRow s cp).size, (bytesRow s cp).size + 1)) := (MapKept.heap_alloc w.drew _).1
    constructor
    · unfold World.cell?
      rw [hh]
      show ((bytesRow s cp)[j]?).isSome = true
      rw [Array.getElem?_eq_getElem (by omega)]
      rfl
    · unfold World.frozen?
      rw [hh]
      simp
      omega

theorem u8_one (u : Value) (t : ByteArray) (h : u ∈ Lib.byteCells t.data.toList) : u.oneCell' = true := by
  unfold Lib.byteCells at h
  obtain ⟨b, -, rfl⟩ := List.mem_map.1 h
  rfl

theorem bc_at (t : ByteArray) (j : Nat) (h : j < t.size) : (Lib.byteCells t.data.toList)[j]? = some (.int .u8 (t[j].toNat : Int)) := by
  have h1 : j < t.data.toList.length := by rw [Array.length_toList]; exact h
  unfold Lib.byteCells
  rw [List.getElem?_map, List.getElem?_eq_getElem h1]
  rfl

/-- The cells of a row, by their list. -/
theorem Rw.cells {B : Nat} {t : ByteArray} {w : World} {g cap : Nat} (h3 : ∀ j (h : j < t.size), w.cell? ⟨g, j, none⟩ = some (.int .u8 (t[j].toNat : Int))) : ∀ j u, (Lib.byteCells t.data.toList)[j]? = some u → w.cell? (Addr.add ⟨g, 0, none⟩ j) = some u := by
  intro j u hu
  have hj : j < t.size := by
    have := (List.getElem?_eq_some_iff.1 hu).1
    rw [cells_size] at this
    exact this
  rw [bc_at t j hj] at hu
  rw [show Addr.add ⟨g, 0, none⟩ j = ⟨g, j, none⟩ from by simp [Addr.add]; exact Eq.symm, h3 j hj]
  exact hu

/-- A row with another behind it. -/
theorem rw_append (B : Nat) (v x : Value) (t s : ByteArray) (w : World) (h : Rw B v t w) (g2 : Nat) (hx : Rw g2 x s w) (hB : B ≤ w.heap.size) (hl : t.size + s.size ≤ 140737488355328) :
    ∃ v' w1, (Builtin.append_ #[46, 46] 46 #[v, x]).run Tryd.prog w = .ok v' w1 ∧ Rw B v' (t ++ s) w1 ∧ Below B w w1 ∧ ∀ k, k < w.heap.size → v.ownBlock ≠ some k → w1.heap[k]? = w.heap[k]? := by
  obtain ⟨i0, hi, hz0, hz1, hz2⟩ := info_parts byte_bd
  obtain ⟨g, cap, rfl, hBg, hg, h1, h2, h3, h4⟩ := h
  obtain ⟨gx, cx, rfl, -, hgx, x1, x2, x3, x4⟩ := hx
  have hsz : (t ++ s).size = t.size + s.size := ByteArray.size_append
  have hS : Src Tryd.prog i0.size 46 (.slice (some ⟨gx, 0, none⟩) s.size cx) s.size (Lib.byteCells s.data.toList) w := by
    rw [hz1]
    exact Src.ofSlice w Tryd.underlying46 ⟨gx, 0, none⟩ s.size cx _ (by rw [cells_size, Nat.mul_one]) (Rw.cells (B := 0) (cap := 0) x3) fun u hu => u8_one u s hu
  by_cases hroom : t.size + s.size ≤ cap
  · have hr := run_append_room_src (P := Tryd.prog) w 46 46 46 5 i0 Tryd.underlying46 hi g 0 t.size cap _ s.size _ hS hroom (fun j hj => by rw [cells_size] at hj; rw [hz1, Nat.mul_one, Nat.zero_add]; exact (h4 _ (by omega)).1) (fun j hj => by rw [cells_size] at hj; rw [hz1, Nat.mul_one, Nat.zero_add]; exact (h4 _ (by omega)).2)
    rw [hz1, Nat.mul_one, Nat.zero_add] at hr
    refine ⟨_, _, hr, ⟨g, cap, by rw [hsz], hBg, ?_, by omega, h2, ?_, ?_⟩, Lib.below_setCells g hBg _ _ (Below.refl _ _), fun k hk hne => World.heap_setCells_other w g _ _ hk (fun e => hne (by rw [e]; rfl))⟩
    · have := (Lib.below_setCells (B := 0) g (Nat.zero_le _) (Lib.byteCells s.data.toList) t.size (Below.refl 0 w)).size
      omega
    · intro j hj
      rw [hsz] at hj
      by_cases hjt : j < t.size
      · rw [World.cell?_setCells_out g _ _ _ _ (fun _ _ => Or.inl hjt), h3 j hjt]
        rw [ByteArray.getElem_append_left hjt]
      · obtain ⟨k, rfl⟩ : ∃ k, j = t.size + k := ⟨j - t.size, by omega⟩
        have hk : k < (Lib.byteCells s.data.toList).length := by rw [cells_size]; omega
        have := World.cell?_setCells_in g (Lib.byteCells s.data.toList) t.size w (fun j hj => by rw [cells_size] at hj; exact (h4 _ (by omega)).1) k hk
        rw [this]
        have hb := bc_at s k (by omega)
        rw [List.getElem?_eq_getElem hk] at hb
        rw [hb]
        have e : (t ++ s)[t.size + k]'(by rw [hsz]; exact hj) = s[k]'(by omega) := by
          rw [ByteArray.getElem_append_right (by omega)]
          simp only [Nat.add_sub_cancel_left]
        rw [e]
    · intro j hj
      rw [World.frozen?_setCells]
      refine ⟨?_, (h4 j hj).2⟩
      by_cases hin : t.size ≤ j ∧ j < t.size + s.size
      · obtain ⟨k, rfl⟩ : ∃ k, j = t.size + k := ⟨j - t.size, by omega⟩
        rw [World.cell?_setCells_in g (Lib.byteCells s.data.toList) t.size w (fun j hj => by rw [cells_size] at hj; exact (h4 _ (by omega)).1) k (by rw [cells_size]; omega)]
        rfl
      · rw [World.cell?_setCells_out g _ _ _ _ (fun _ _ => by rw [cells_size]; show j < t.size ∨ t.size + s.size ≤ j; omega)]
        exact (h4 j hj).1
  · have hold : (Builtin.firstCells i0.size t.size (.slice (some ⟨g, 0, none⟩) t.size cap)).run Tryd.prog w.drew = .ok (Lib.byteCells t.data.toList).toArray w.drew := by
      rw [hz1]
      exact run_firstCells_some w.drew 1 t.size ⟨g, 0, none⟩ t.size cap _ (by rw [cells_size, Nat.mul_one]) (Rw.cells (B := 0) (cap := 0) h3)
    have hm : t.size + s.size ≤ maxLen := by unfold maxLen; omega
    have hr := run_append_grow_src (P := Tryd.prog) w 46 46 46 5 i0 _ Tryd.underlying46 hi hz0 (some ⟨g, 0, none⟩) t.size cap (Lib.byteCells t.data.toList) hold _ s.size _ hS (by omega) (by omega) (growslice_fits (by omega) (by rw [hz2]; omega))
    have hge := grownCap_ge w (t.size + s.size) cap 5
    have hle := grownCap_le_maxLen w (t.size + s.size) cap 5 hm
    refine ⟨_, _, hr, ⟨w.heap.size, _, by rw [hsz], hB, by simp, by omega, hle, ?_, ?_⟩, ((Below.refl _ _).drew).alloc hB _, fun k hk _ => Below.heap_alloc w.drew _ k hk⟩
    · intro j hj
      rw [hsz] at hj
      generalize grownCap w (t.size + s.size) cap 5 = cp at *
      have hd : w.drew.heap.size = w.heap.size := rfl
      rw [← hd, World.cell?_alloc_mark]
      have hlen : (Lib.byteCells t.data.toList ++ Lib.byteCells s.data.toList).length = t.size + s.size := by rw [List.length_append, cells_size, cells_size]
      rw [Array.getElem?_append_left (by rw [List.size_toArray, hlen]; exact hj), List.getElem?_toArray]
      have e : Lib.byteCells t.data.toList ++ Lib.byteCells s.data.toList = Lib.byteCells (t ++ s).data.toList := by simp [Lib.byteCells]
      rw [e, bc_at (t ++ s) j (by rw [hsz]; exact hj)]
    · intro j hj
      generalize grownCap w (t.size + s.size) cap 5 = cp at *
      have hlen : (Lib.byteCells t.data.toList ++ Lib.byteCells s.data.toList).length = t.size + s.size := by rw [List.length_append, cells_size, cells_size]
      have hcs : ((Lib.byteCells t.data.toList ++ Lib.byteCells s.data.toList).toArray ++ Builtin.zeroCells (Value.cells (.int .u8 0)) (cp - (t.size + s.size))).size = cp := by
        rw [Array.size_append, List.size_toArray, hlen, size_zeroCells]
        show _ + (cp - (t.size + s.size)) * 1 = cp
        omega
      generalize (Lib.byteCells t.data.toList ++ Lib.byteCells s.data.toList).toArray ++ Builtin.zeroCells (Value.cells (.int .u8 0)) (cp - (t.size + s.size)) = C at *
      have hh : (w.drew.alloc (.cells C 5)).heap[w.heap.size]? = some (.cells C 5 (0, 0)) := (MapKept.heap_alloc w.drew _).1
      refine ⟨?_, Pk.frozen_at hh j⟩
      unfold World.cell?
      rw [hh]
      show (C[j]?).isSome = true
      rw [Array.getElem?_eq_getElem (by omega)]
      rfl

theorem wp_rw_append {o : Oper} {a : Act} {K : Act → World → Prop} {Q : Exit → Act → World → Prop} {w w1 : World} {v' : Value} (s x : Operand) (v xv : Value)
    (ho : o.op = .call { callee := .builtin .append, args := #[s, x], argTypes := #[46, 46] }) (hty : o.type = 46) (hs : a.eval s = v) (hx : a.eval x = xv)
    (hr : (Builtin.append_ #[46, 46] 46 #[v, xv]).run Tryd.prog w = .ok v' w1) (h : K (a.put o.dst v') w1) : o.wp Tryd.prog a w K Q := by
  unfold Oper.wp execOp
  simp only [ho, resolve, invoke, builtin, Sem.run_bind, Sem.run_pure, Result.andThen_ok, List.map_toArray, List.map_cons, List.map_nil, hs, hx, hty, hr]
  exact h

theorem wpList_rw_append {ops : Array Oper} {rest : List Oper} {o : Oper} {a : Act} {Q : Exit → Act → World → Prop} {w w1 : World} {v' : Value} (hgd : o.guard = none) (s x : Operand) (v xv : Value)
    (ho : o.op = .call { callee := .builtin .append, args := #[s, x], argTypes := #[46, 46] }) (hty : o.type = 46) (hs : a.eval s = v) (hx : a.eval x = xv)
    (hr : (Builtin.append_ #[46, 46] 46 #[v, xv]).run Tryd.prog w = .ok v' w1) (h : wpList Tryd.prog ops Q rest (a.put o.dst v') w1) : wpList Tryd.prog ops Q (o :: rest) a w := by
  refine wpList_plain hgd fun K hK => ?_
  exact wp_rw_append s x v xv ho hty hs hx hr (hK _ _ h)

/-- Its text. -/
theorem rw_back {B : Nat} {v : Value} {t : ByteArray} {w : World} (h : Rw B v t w) : (convert 46 9 v).run Tryd.prog w = .ok (.string t) w := by
  obtain ⟨g, cap, rfl, hBg, hg, h1, h2, h3, h4⟩ := h
  have hl : t.data.toList.length = t.size := Array.length_toList
  have := run_convert_bytes_back w 46 9 5 ⟨g, 0, none⟩ cap t.data.toList Tryd.underlying46 Tryd.underlying5 Tryd.underlying9 (fun j hj => by rw [show Addr.add ⟨g, 0, none⟩ j = ⟨g, j, none⟩ from by simp [Addr.add]; exact Eq.symm, h3 j (by omega)]; rfl)
  rw [hl] at this
  simpa using this

end Ot
end Go.Proofs.YtbmcnkfhiiicjaaDoor

/- Contracts of the draws of texts of chapter 1. -/
import Derived.Test.YtbfgfedblnldcaaDoorCurNum
import Derived.Test.YtbfgfedblnldcaaDoorMathSum
import Derived.OwnWalk
import Derived.WalkKit
import Derived.WalkSpells
import Derived.Laws.BytesArg
namespace Go.Proofs.YtbfgfedblnldcaaDoor
namespace Cur
open Go.ChangeShapes Go.WideShapes Go.ChangeAt Go.RowKit

theorem owns_moved {w w1 : World} {base e size c : Nat} {v : Value} {n : Nat} {xs : List Value} (h : w.ownsRow base e size v n xs) (M : Moved c w w1) (hc : c < base) : w1.ownsRow base e size v n xs := by
  obtain ⟨h1, h2⟩ := h
  refine ⟨h1, ?_⟩
  rcases h2 with h2 | ⟨g, cap, cur, hv, hg, hh, hr⟩
  · exact Or.inl h2
  · exact Or.inr ⟨g, cap, cur, hv, hg, by rw [M.block g (by omega)]; exact hh, hr⟩

theorem Is.grown {W0 : World} {a : Option Addr} {n cap c : Nat} {w w1 : World} {row : Option Nat} (C : Is W0 a n cap c w) (G : w.grownBy w1 row) (hr : row ≠ some c) (hr2 : ∀ k, row = some k → W0.heap.size ≤ k) : Is W0 a n cap c w1 := by
  have hb : w1.heap[c]? = w.heap[c]? := G.block c C.lt (fun h => hr h.symm)
  have hc : ∀ o, w1.cell? ⟨c, o, none⟩ = w.cell? ⟨c, o, none⟩ := fun o => World.cell?_of_block hb
  have hf : ∀ o, w1.frozen? ⟨c, o, none⟩ = w.frozen? ⟨c, o, none⟩ := fun o => World.frozen?_of_block hb
  refine ⟨C.below.grown G C.below.size hr2, C.ge, Nat.lt_of_lt_of_le C.lt G.size, C.len, C.code, by rw [hc]; exact C.cb, ?_, ?_, by rw [hf]; exact C.fi, by rw [hf]; exact C.fh⟩
  · obtain ⟨i, h1, h2⟩ := C.ci
    exact ⟨i, h1, by rw [hc]; exact h2⟩
  · obtain ⟨h0, h2⟩ := C.ch
    exact ⟨h0, by rw [hc]; exact h2⟩

theorem Tryd.info5 : (Tryd.prog.info? 5).map (fun i => (i.zero, i.size, i.bytes)) = some (some (.int .u8 0), 1, 1) := by kernel_rfl

/-- The cells of bytes. -/
def bcells (l : List UInt8) : List Value := l.map fun b => .int .u8 (b.toNat : Int)

theorem bcells_snoc (l : List UInt8) (x : Int) (h0 : 0 ≤ x) (h1 : x ≤ 255) : bcells l ++ [.int .u8 x] = bcells (l ++ [UInt8.ofNat x.toNat]) := by
  unfold bcells
  rw [List.map_append, List.map_cons, List.map_nil, UInt8.toNat_ofNat']
  congr 3
  omega

theorem own_block {w : World} {base e size : Nat} {v : Value} {n : Nat} {xs : List Value} (h : w.ownsRow base e size v n xs) (k : Nat) (hk : v.ownBlock = some k) : base ≤ k := by
  obtain ⟨_, h2⟩ := h
  rcases h2 with ⟨hv, _⟩ | ⟨g, cap, cur, hv, hg, _⟩
  · rw [hv] at hk; simp [Value.ownBlock] at hk
  · rw [hv] at hk; simp [Value.ownBlock] at hk; omega

/-- The text of an owned row of bytes. -/
theorem conv_own {w : World} {base : Nat} {v : Value} {n : Nat} {l : List UInt8} (h : w.ownsRow base 5 1 v n (bcells l)) :
    (convert 22 9 v).run Tryd.prog w = .ok (.string ⟨l.toArray⟩) w := by
  obtain ⟨hl, h2⟩ := h
  have hln : l.length = n := by simpa [bcells] using hl
  rcases h2 with ⟨hv, h0⟩ | ⟨g, cap, cur, hv, hg, hh, h1, h3, h4, h5⟩
  · subst h0
    have : l = [] := List.eq_nil_of_length_eq_zero hln
    subst this
    rw [hv]
    exact run_convert_bytes_nil w 22 5 Tryd.underlying22 Tryd.underlying5 0 0 9 Tryd.underlying9
  · subst hln
    rw [hv]
    refine run_convert_bytes_back w 22 9 5 ⟨g, 0, none⟩ cap l Tryd.underlying22 Tryd.underlying5 Tryd.underlying9 ?_
    intro j hj
    rw [show Addr.add ⟨g, 0, none⟩ j = ⟨g, j, none⟩ from by simp [Addr.add]; exact Eq.symm]
    have e : cur[j]? = some (.int .u8 (l[j].toNat : Int)) := by
      have h6 : (cur.toList.take (l.length * 1))[j]? = (bcells l)[j]? := by rw [h5]
      rw [List.getElem?_take, if_pos (by omega)] at h6
      rw [Array.getElem?_toList] at h6
      rw [h6]
      simp [bcells, hj]
    unfold World.cell?
    rw [hh]
    exact e

theorem bytes_any {W0 : World} {a : Option Addr} {n cap c : Nat} {w : World} (C : Is W0 a n cap c w) (m : Nat) (hm : m ≤ 1000000) :
    Calls Tryd.prog 42 #[.pointer (some ⟨c, 0, none⟩), .int .i64 m] w fun e w' => (∃ s : ByteArray, e = .returned (.string s) ∧ s.size = m) ∧ Is W0 a n cap c w' := by
  have hlt := C.lt
  obtain ⟨i0, hi, hz0, hz1, hz2⟩ := info_parts Tryd.info5
  go_enter Tryd.func42, Tryd.ntmps42
  go_wp2
  go_loopw [5, 6] (fun v i wr => ∃ (k : Nat) (l : List UInt8), k ≤ m ∧ l.length = k ∧ i = .int .i64 k ∧ wr.ownsRow w.heap.size 5 1 v k (bcells l) ∧ Is W0 a n cap c wr ∧ w.heap.size ≤ wr.heap.size) (fun _ i _ => m - (intOf i).toNat)
  case atStart => exact ⟨0, [], by omega, rfl, rfl, ⟨rfl, Or.inr ⟨w.heap.size, 0, #[], rfl, Nat.le_refl _, (MapKept.heap_alloc w _).1, by omega, by unfold maxLen; omega, rfl, rfl⟩⟩, C.alloc _, by simp⟩
  case round =>
    obtain ⟨k, l, hk, hl, rfl, hown, Cr, hsz⟩ := hrel
    by_cases hkm : k < m
    · go_wp2_with fail
      refine (below_any Cr _).mono ?_
      rintro e w2 ⟨⟨x, rfl, hx0, hx1⟩, C2, M2⟩
      have hx2 := hx1 (by omega)
      clear hx1
      have hown2 := owns_moved hown M2 hlt
      have hsz2 : w.heap.size ≤ w2.heap.size := by rw [M2.size]; exact hsz
      clear hown M2
      go_wp2_with (at_builtin; refine wpList_append_own _ rfl _ _ 22 rfl w.heap.size 5 i0 (.int .u8 0) 1 1 Tryd.underlying22 hi hz0 hz1 hz2 rfl (by decide) _ _ _ rfl (hown2.alloc _) ⟨w2.heap.size, 0, none⟩ 1 1 [.int .u8 x] rfl rfl ?c1 ?c2 ?c3 ?c4 ?c5 ?_)
      case c1 => exact cell_one_new _ _ _
      case c2 => intro u hu; simp at hu; subst hu; rfl
      case c3 => unfold maxLen; omega
      case c4 => omega
      case c5 => simp; omega
      · intro v' w3 hown3 hgrow _
        have hb3 := own_block hown2
        have C3 : Is W0 a n cap c w3 := (C2.alloc _).grown hgrow (fun h => by have := hb3 _ h; omega) (fun k h => by have := hb3 _ h; have := C.below.size; omega)
        rw [bcells_snoc l x hx0 (by omega)] at hown3
        have hsz3 := hgrow.size
        rw [World.size_alloc] at hsz3
        clear hown2 hgrow C2 hb3
        go_wp2
        go_roundw
        case rel => exact ⟨k + 1, l ++ [UInt8.ofNat x.toNat], by omega, by simp [hl], by go_num, hown3, C3, by omega⟩
        case measure => simp [intOf]; omega
    · obtain rfl : k = m := by omega
      have hconv := conv_own hown
      go_wp2
      go_ret
      exact ⟨⟨_, rfl, by simpa [ByteArray.size] using hl⟩, Cr⟩

/-- The bytes of a text in new memory. -/
theorem to_bytes (w : World) (s : ByteArray) : ∃ (g cap : Nat) (w1 : World), (convert 9 22 (.string s)).run Tryd.prog w = .ok (.slice (some ⟨g, 0, none⟩) s.size cap) w1 ∧ w.heap.size ≤ g ∧ g < w1.heap.size ∧ Below w.heap.size w w1 ∧
    ∀ j (hj : j < s.size), w1.cell? ⟨g, j, none⟩ = some (.int .u8 (s[j].toNat : Int)) ∧ w1.frozen? ⟨g, j, none⟩ = false := by
  refine ⟨_, _, _, run_bytes_of_string w 9 22 5 s Tryd.underlying9 Tryd.underlying22 Tryd.underlying5, Nat.le_refl _, by simp, ((Below.refl _ _).drew).alloc (Nat.le_refl _) _, ?_⟩
  intro j hj
  generalize grownCap w s.size 0 5 = cp
  have hd : w.drew.heap.size = w.heap.size := rfl
  constructor
  · rw [← hd, World.cell?_alloc_mark, bytesRow_at s _ j hj]
    rfl
  · have hh : (w.drew.alloc (.cells (bytesRow s cp) 5 ((bytesRow s cp).size, (bytesRow s cp).size + 1))).heap[w.heap.size]? = some (.cells (bytesRow s cp) 5 ((bytesRow s cp).size, (bytesRow s cp).size + 1)) := (MapKept.heap_alloc w.drew _).1
    have hsz : j < (bytesRow s cp).size := by
      have h := bytesRow_at s cp j hj
      exact (Array.getElem?_eq_some_iff.1 h).1
    unfold World.frozen?
    rw [hh]
    simp
    omega

/-- The text of bytes of which one has been changed. -/
theorem back_set (w : World) (s : ByteArray) (g cp k : Nat) (v : UInt8) (hk : k < s.size) (hc : ∀ j (hj : j < s.size), w.cell? ⟨g, j, none⟩ = some (.int .u8 (s[j].toNat : Int)) ∧ w.frozen? ⟨g, j, none⟩ = false) :
    (convert 22 9 (.slice (some ⟨g, 0, none⟩) s.size cp)).run Tryd.prog ((w.setCell ⟨g, k, none⟩ (.int .u8 (v.toNat : Int))).drew) = .ok (.string ⟨(s.data.toList.set k v).toArray⟩) ((w.setCell ⟨g, k, none⟩ (.int .u8 (v.toNat : Int))).drew) := by
  have hl : (s.data.toList.set k v).length = s.size := by rw [List.length_set, Array.length_toList]; rfl
  rw [← hl]
  refine run_convert_bytes_back _ 22 9 5 ⟨g, 0, none⟩ cp (s.data.toList.set k v) Tryd.underlying22 Tryd.underlying5 Tryd.underlying9 ?_
  intro j hj0
  have hj : j < s.size := by omega
  rw [show Addr.add ⟨g, 0, none⟩ j = ⟨g, j, none⟩ from by simp [Addr.add]; exact Eq.symm]
  show (w.setCell ⟨g, k, none⟩ (.int .u8 (v.toNat : Int))).cell? ⟨g, j, none⟩ = _
  by_cases e : j = k
  · subst e
    rw [World.cell?_setCell_same _ _ _ (hc j hj).1, List.getElem_set_self]
  · rw [World.cell?_setCell_other _ _ _ _ (by intro h; apply e; simpa using h.symm), (hc j hj).1, List.getElem_set_ne (by omega)]
    rfl

theorem xor_val (b : UInt8) (x : Int) (h0 : 0 ≤ x) : bits .xor .u8 (b.toNat : Int) (IntKind.u8.wrap (IntKind.i64.wrap (1 + x.tmod 255))) = ((b ^^^ UInt8.ofNat (1 + x % 255).toNat).toNat : Int) := by
  have e : x.tmod 255 = x % 255 := Int.tmod_eq_emod_of_nonneg h0
  have e2 : IntKind.u8.wrap (IntKind.i64.wrap (1 + x.tmod 255)) = (((1 + x % 255).toNat : Nat) : Int) := by
    rw [e, IntKind.wrap_i64, IntKind.wrap_u8]
    omega
  rw [e2]
  exact Math.bits_xor_u8 b _ (by omega)

end Cur
end Go.Proofs.YtbfgfedblnldcaaDoor

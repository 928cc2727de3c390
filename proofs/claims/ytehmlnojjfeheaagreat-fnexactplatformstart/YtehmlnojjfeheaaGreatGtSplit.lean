/- The parts of a text between a byte: the model's l04Split. -/
import Derived.Test.YtehmlnojjfeheaaGreatPkRow
namespace Go.Proofs.YtehmlnojjfeheaaGreat
namespace Gt
open Go.ChangeShapes Go.WideShapes Go.ChangeAt Go.RowKit
open Pk (own_at own_ge own_below info_of new_below join_below heap_new)
set_option linter.unusedSimpArgs false
set_option linter.unusedVariables false

theorem own_new (w : World) (t : TypeId) (z : Nat) : (w.alloc (.cells #[] t)).ownsRow w.heap.size t z (.slice (some ⟨w.heap.size, 0, none⟩) 0 0) 0 [] :=
  ⟨by simp, Or.inr ⟨w.heap.size, 0, #[], rfl, Nat.le_refl _, heap_new w _, by omega, by unfold maxLen; omega, by simp, by simp⟩⟩

theorem own_base {w : World} {B base e size : Nat} {v : Value} {n : Nat} {xs : List Value} (h : w.ownsRow base e size v n xs) (hB : B ≤ base) : w.ownsRow B e size v n xs := by
  obtain ⟨h1, h2⟩ := h
  refine ⟨h1, ?_⟩
  rcases h2 with h2 | ⟨g, cap, cur, hv, hg, hr⟩
  · exact Or.inl h2
  · exact Or.inr ⟨g, cap, cur, hv, by omega, hr⟩

theorem own_pos {w : World} {base e size : Nat} {v : Value} {n : Nat} {xs : List Value} (h : w.ownsRow base e size v n xs) (hn : 0 < n) : ∃ g cap, v = .slice (some ⟨g, 0, none⟩) n cap := by
  obtain ⟨-, h2⟩ := h
  rcases h2 with ⟨-, h0⟩ | ⟨g, cap, cur, h1, -⟩
  · omega
  · exact ⟨g, cap, h1⟩

theorem own_blk {w : World} {base e g n cap : Nat} {xs : List Value} (h : w.ownsRow base e 1 (.slice (some ⟨g, 0, none⟩) n cap) n xs) : ∃ cur : Array Value, w.heap[g]? = some (.cells cur e) ∧ cur.toList.take n = xs ∧ base ≤ g ∧ n ≤ cap ∧ cap ≤ maxLen := by
  obtain ⟨-, h2⟩ := h
  rcases h2 with ⟨hv, -⟩ | ⟨g2, cap2, cur, hv, hb, hh, h3, h4, -, ht⟩
  · cases hv
  · simp only [Value.slice.injEq, Option.some.injEq, Addr.mk.injEq] at hv
    obtain ⟨⟨rfl, -, -⟩, -, rfl⟩ := hv
    exact ⟨cur, hh, by rw [← ht, Nat.mul_one], hb, h3, h4⟩

/-- The byte at a place, nought behind the end. -/
def bt (s : ByteArray) (i : Nat) : UInt8 := s.data.toList.getD i 0

theorem bt_at (s : ByteArray) (i : Nat) (h : i < s.size) : bt s i = s[i] := by
  unfold bt
  rw [List.getD_eq_getElem?_getD, List.getElem?_eq_getElem (by rw [Array.length_toList]; exact h)]
  rfl

/-- The parts from place i on, where the part begins at f. -/
def splF (c : UInt8) (s : ByteArray) : Nat → Nat → Nat → List ByteArray
  | 0, _, f => [s.extract f s.size]
  | n + 1, i, f => if bt s i = c then s.extract f i :: splF c s n (i + 1) (i + 1) else splF c s n (i + 1) f

/-- The parts of a text between a byte. -/
def split (c : UInt8) (s : ByteArray) : List ByteArray := splF c s s.size 0 0

theorem splF_length (c : UInt8) (s : ByteArray) : ∀ n i f, 1 ≤ (splF c s n i f).length ∧ (splF c s n i f).length ≤ n + 1
  | 0, _, _ => ⟨Nat.le_refl _, Nat.le_refl _⟩
  | n + 1, i, f => by
    unfold splF
    split
    · have := splF_length c s n (i + 1) (i + 1)
      simp only [List.length_cons]
      omega
    · have := splF_length c s n (i + 1) f
      omega

theorem splF_size (c : UInt8) (s : ByteArray) : ∀ n i f, ∀ x ∈ splF c s n i f, x.size ≤ s.size
  | 0, _, f => by
    intro x hx
    simp only [splF, List.mem_singleton] at hx
    subst hx
    rw [ByteArray.size_extract]
    omega
  | n + 1, i, f => by
    intro x hx
    unfold splF at hx
    split at hx
    · rcases List.mem_cons.1 hx with rfl | hx
      · rw [ByteArray.size_extract]
        omega
      · exact splF_size c s n _ _ x hx
    · exact splF_size c s n _ _ x hx

/-- The cells of texts. -/
def tcells (l : List ByteArray) : List Value := l.map Value.string

theorem tcells_length (l : List ByteArray) : (tcells l).length = l.length := by simp [tcells]

theorem tcells_snoc (l : List ByteArray) (b : ByteArray) : tcells l ++ [.string b] = tcells (l ++ [b]) := by simp [tcells]

theorem tcells_at (l : List ByteArray) (i : Nat) (h : i < l.length) : (tcells l)[i]? = some (.string l[i]) := by simp [tcells, h]

theorem info_str : (Tryz.prog.info? 9).map (fun i => (i.zero, i.size, i.bytes)) = some (some (.string ⟨#[]⟩), 1, 16) := by kernel_rfl

theorem cell_one (W : World) (v : Value) (t : TypeId) : ∀ j u, [v][j]? = some u → (W.alloc (.cells #[v] t)).cell? (Addr.add ⟨W.heap.size, 0, none⟩ j) = some u := by
  intro j u hu
  match j, hu with
  | 0, hu =>
    have := Pk.cell_at (Pk.heap_new W (.cells #[v] t)) 0
    simp at hu
    subst hu
    rw [show Addr.add ⟨W.heap.size, 0, none⟩ 0 = ⟨W.heap.size, 0, none⟩ from by simp [Addr.add]]
    exact this
  | j + 1, hu => simp at hu

end Gt
end Go.Proofs.YtehmlnojjfeheaaGreat

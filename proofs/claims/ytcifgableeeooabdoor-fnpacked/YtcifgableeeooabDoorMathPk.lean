/- The mathematics of chapter 3: the bits of pieces. -/
import Derived.Test.YtcifgableeeooabDoorPkFix
import Derived.Test.YtcifgableeeooabDoorMathPieces
namespace Go.Proofs.YtcifgableeeooabDoor
namespace Pk
open Math (Pc Bits lowL highL)

theorem fixL_bits (s : Int) : Bits (fixL s) := by
  unfold fixL
  split
  · exact Math.highL_bits _ _
  split
  · exact Math.highL_bits _ _
  split
  · exact Math.highL_bits _ _
  split
  · exact Math.highL_bits _ _
  · exact Bits.nil

theorem fixL_length (s : Int) : (fixL s).length ≤ 9 := by
  unfold fixL
  split
  · rw [Math.highL_length]; omega
  split
  · rw [Math.highL_length]; omega
  split
  · rw [Math.highL_length]; omega
  split
  · rw [Math.highL_length]; omega
  · simp

theorem fixL_pos (s : Int) (h0 : 0 ≤ s) (h1 : s ≤ 285) : 7 ≤ (fixL s).length := by
  unfold fixL
  split
  · rw [Math.highL_length]; omega
  split
  · rw [Math.highL_length]; omega
  split
  · rw [Math.highL_length]; omega
  split
  · rw [Math.highL_length]; omega
  · omega

/-- A piece as Pieces gives them: a byte, or a copy. -/
def PcOk (p : Pc) : Prop := (p.n = 0 ∧ p.d = 0 ∧ 0 ≤ p.x ∧ p.x ≤ 255) ∨ (p.x = 0 ∧ 3 ≤ p.n ∧ p.n ≤ 258 ∧ 1 ≤ p.d ∧ p.d ≤ 1024)

theorem best_back (s : ByteArray) (i k : Nat) (h : 1 ≤ (Math.best s i k).1) : 1 ≤ (Math.best s i k).2 := by
  induction k with
  | zero => simp [Math.best] at h
  | succ k ih =>
    unfold Math.best at h ⊢
    split
    · simp
    · rename_i h2
      rw [if_neg h2] at h
      exact ih h

theorem pieceAt_ok (s : ByteArray) (i : Nat) : PcOk (Math.pieceAt s i) := by
  unfold Math.pieceAt
  split
  · rename_i h
    have h1 := Math.best_le s i (Math.far i)
    have h2 := best_back s i (Math.far i) (by omega)
    have h3 : Math.far i ≤ 1024 := by unfold Math.far; omega
    exact Or.inr ⟨rfl, by show (3 : Int) ≤ ((Math.best s i (Math.far i)).1 : Int); omega, by show ((Math.best s i (Math.far i)).1 : Int) ≤ 258; omega, by show (1 : Int) ≤ ((Math.best s i (Math.far i)).2 : Int); omega, by show ((Math.best s i (Math.far i)).2 : Int) ≤ 1024; omega⟩
  · have h4 := (s.data.toList.getD i 0).toNat_lt
    exact Or.inl ⟨rfl, rfl, by show (0 : Int) ≤ ((s.data.toList.getD i 0).toNat : Int); omega, by show ((s.data.toList.getD i 0).toNat : Int) ≤ 255; omega⟩

theorem pcsFrom_ok (s : ByteArray) (f i : Nat) : ∀ p ∈ Math.pcsFrom s f i, PcOk p := by
  induction f generalizing i with
  | zero => intro p hp; simp [Math.pcsFrom] at hp
  | succ f ih =>
    intro p hp
    unfold Math.pcsFrom at hp
    split at hp
    · rcases List.mem_cons.1 hp with rfl | hp
      · exact pieceAt_ok s i
      · exact ih _ p hp
    · cases hp

theorem pieces_ok (s : ByteArray) : ∀ p ∈ Math.pieces s, PcOk p := by
  unfold Math.pieces
  split
  · exact pcsFrom_ok s _ _
  · intro p hp; cases hp

/-- The bits of a piece, and of pieces. -/
def pcBits (p : Pc) : List Nat := if p.n = 0 then fixL p.x else fixL (lenC p.n) ++ lowL (lenX p.n).toNat (lenB p.n).toNat ++ highL (backC p.d).toNat 5 ++ lowL (backX p.d).toNat (backB p.d).toNat

def pcsBits : List Pc → List Nat
  | [] => []
  | p :: r => pcBits p ++ pcsBits r

theorem pcsBits_append (a b : List Pc) : pcsBits (a ++ b) = pcsBits a ++ pcsBits b := by
  induction a with
  | nil => rfl
  | cons p a ih => show pcBits p ++ pcsBits (a ++ b) = _; rw [ih, ← List.append_assoc]; rfl

theorem pcsBits_take (ps : List Pc) (k : Nat) (h : k < ps.length) : pcsBits (ps.take (k + 1)) = pcsBits (ps.take k) ++ pcBits ps[k] := by
  rw [List.take_add_one, List.getElem?_eq_getElem h, pcsBits_append]
  show _ ++ (pcBits ps[k] ++ []) = _
  rw [List.append_nil]

/-- What is known of a copy's numbers. -/
theorem copy_nums (n d : Int) (h : 3 ≤ n ∧ n ≤ 258 ∧ 1 ≤ d ∧ d ≤ 1024) :
    (257 ≤ lenC n ∧ lenC n ≤ 285) ∧ (0 ≤ lenB n ∧ lenB n ≤ 15) ∧ (0 ≤ lenX n ∧ lenX n ≤ 40000) ∧ (0 ≤ backC d ∧ backC d ≤ 40000) ∧ (0 ≤ backB d ∧ backB d ≤ 15) ∧ (0 ≤ backX d ∧ backX d ≤ 40000) := by
  have hb : ∀ k r : Nat, k < 32768 → r ≤ 2 → Math.nbits r k ≤ 15 ∧ Math.codeX r k < 32768 := by
    intro k r hk hr
    have h1 := blen_bd k 15 (by omega)
    refine ⟨by unfold Math.nbits; omega, ?_⟩
    unfold Math.codeX
    exact Nat.lt_of_le_of_lt (Nat.mod_le _ _) hk
  obtain ⟨k, hk⟩ := Int.eq_ofNat_of_zero_le (show 0 ≤ d - 1 by omega)
  obtain rfl : d = (k : Int) + 1 := by omega
  obtain ⟨b1, b2, b3⟩ := back_yes k (by omega)
  rw [b1, b2, b3]
  have hk2 := hb k 1 (by omega) (by omega)
  have hcb : Math.codeC 1 k ≤ 40000 := by
    unfold Math.codeC
    have h3 : k / 2 ^ Math.nbits 1 k ≤ k := Nat.div_le_self _ _
    omega
  by_cases h2 : n = 258
  · subst h2
    obtain ⟨e1, e2, e3⟩ := len_top
    rw [e1, e2, e3]
    omega
  · obtain ⟨m, hm⟩ := Int.eq_ofNat_of_zero_le (show 0 ≤ n - 3 by omega)
    obtain rfl : n = (m : Int) + 3 := by omega
    obtain ⟨e1, e2, e3⟩ := len_yes m (by omega)
    rw [e1, e2, e3]
    have hm2 := hb m 2 (by omega) (by omega)
    have hcl : Math.codeC 2 m ≤ 28 := by
      obtain ⟨c, c1, c2⟩ := Math.code_at 4 m (by omega)
      have hc := (Math.code_of 2 c m c1 c2).1
      rw [hc]
      apply Classical.byContradiction
      intro hn
      have h1 : Math.cleast 4 29 ≤ Math.cleast 4 c := Math.cleast_mono 4 29 c (by omega) (by omega)
      have h2 : Math.cleast 4 29 = 320 := by decide
      omega
    omega

theorem pcBits_length (p : Pc) (h : PcOk p) : (pcBits p).length ≤ 44 := by
  unfold pcBits
  split
  · have := fixL_length p.x; omega
  · rename_i h0
    rcases h with h | h
    · omega
    · obtain ⟨-, h1, -, -, h2, -⟩ := copy_nums p.n p.d ⟨h.2.1, h.2.2.1, h.2.2.2.1, h.2.2.2.2⟩
      have := fixL_length (lenC p.n)
      simp only [List.length_append, Math.lowL_length, Math.highL_length]
      omega

theorem pcBits_bits (p : Pc) : Bits (pcBits p) := by
  unfold pcBits
  split
  · exact fixL_bits _
  · exact (((fixL_bits _).append (Math.lowL_bits _ _)).append (Math.highL_bits _ _)).append (Math.lowL_bits _ _)

theorem pcsBits_bits (ps : List Pc) : Bits (pcsBits ps) := by
  induction ps with
  | nil => exact Bits.nil
  | cons p r ih => exact (pcBits_bits p).append ih

theorem pcsBits_length (ps : List Pc) (h : ∀ p ∈ ps, PcOk p) : (pcsBits ps).length ≤ 44 * ps.length := by
  induction ps with
  | nil => simp [pcsBits]
  | cons p r ih =>
    have h1 := pcBits_length p (h p (List.mem_cons_self ..))
    have h2 := ih fun q hq => h q (List.mem_cons_of_mem _ hq)
    show (pcBits p ++ pcsBits r).length ≤ _
    rw [List.length_append, List.length_cons]
    omega

/-- The bits of a packed text. -/
def packL (s : ByteArray) : List Nat := [1, 1, 0] ++ pcsBits (Math.pieces s) ++ fixL 256

/-- What Pack answers. -/
def packS (s : ByteArray) : ByteArray := if s.size ≤ 3000 then ⟨(Math.bytesOf (packL s)).toArray⟩ else ⟨#[]⟩

theorem packS_yes (s : ByteArray) (h : s.size ≤ 3000) : packS s = ⟨(Math.bytesOf (packL s)).toArray⟩ := if_pos h

theorem packS_no (s : ByteArray) (h : ¬ s.size ≤ 3000) : packS s = ⟨#[]⟩ := if_neg h

end Pk
end Go.Proofs.YtcifgableeeooabDoor

/- Contracts of Stored, of the program and of its model. -/
import Derived.Test.YtllmmelnkkmfoajDoorPkBits
namespace Go.Proofs.YtllmmelnkkmfoajDoor
namespace Pk
open Go.ChangeShapes Go.WideShapes Go.ChangeAt Go.RowKit
open Math (Bits bytesOf)
set_option linter.unusedSimpArgs false
set_option linter.unusedVariables false

/-- A text and whether it is one, as a result. -/
abbrev t2' (s : ByteArray) (b : Bool) : Value := .tuple #[.string s, .bool b]

/-- What stands ahead of a stored text of n bytes. -/
def storedHead (n : Nat) : List UInt8 := [1, UInt8.ofNat (n % 256), UInt8.ofNat (n / 256), UInt8.ofNat (255 - n % 256), UInt8.ofNat (255 - n / 256)]

/-- What Stored answers. -/
def storedS (s : ByteArray) : ByteArray := if s.size ≤ 3000 then ⟨(storedHead s.size).toArray⟩ ++ s else ⟨#[]⟩

theorem storedS_yes (s : ByteArray) (h : s.size ≤ 3000) : storedS s = ⟨(storedHead s.size).toArray⟩ ++ s := if_pos h

theorem storedS_no (s : ByteArray) (h : ¬ s.size ≤ 3000) : storedS s = ⟨#[]⟩ := if_neg h

theorem xor_full (n : Nat) (h : n < 65536) : n ^^^ 65535 = 65535 - n := by
  have h1 : (BitVec.ofNat 16 n ^^^ BitVec.allOnes 16).toNat = (~~~ BitVec.ofNat 16 n).toNat := by rw [BitVec.xor_allOnes]
  rw [BitVec.toNat_xor, BitVec.toNat_not, BitVec.toNat_allOnes, BitVec.toNat_ofNat, Nat.mod_eq_of_lt (by omega)] at h1
  exact h1

theorem low16 (n : Nat) : Math.lowL n 16 = [n % 2, n / 2 % 2, n / 4 % 2, n / 8 % 2, n / 16 % 2, n / 32 % 2, n / 64 % 2, n / 128 % 2, n / 256 % 2, n / 512 % 2, n / 1024 % 2, n / 2048 % 2, n / 4096 % 2, n / 8192 % 2, n / 16384 % 2, n / 32768 % 2] := by
  simp [Math.lowL, List.range, List.range.loop]

theorem stored_bytes (n : Nat) (h : n ≤ 3000) : bytesOf ([1] ++ Math.lowL 0 2 ++ Math.lowL 0 5 ++ Math.lowL n 16 ++ Math.lowL (65535 - n) 16) = storedHead n := by
  rw [low16, low16, show Math.lowL 0 2 = [0, 0] from rfl, show Math.lowL 0 5 = [0, 0, 0, 0, 0] from rfl]
  have key : ∀ L : List Nat, L.length = 40 → bytesOf L = [UInt8.ofNat (Math.byteAt L 0), UInt8.ofNat (Math.byteAt L 1), UInt8.ofNat (Math.byteAt L 2), UInt8.ofNat (Math.byteAt L 3), UInt8.ofNat (Math.byteAt L 4)] := by
    intro L hL
    unfold bytesOf
    rw [hL]
    rfl
  rw [key _ rfl]
  have five : ∀ a b c d e a' b' c' d' e' : Nat, a = a' → b = b' → c = c' → d = d' → e = e' → [UInt8.ofNat a, UInt8.ofNat b, UInt8.ofNat c, UInt8.ofNat d, UInt8.ofNat e] = [UInt8.ofNat a', UInt8.ofNat b', UInt8.ofNat c', UInt8.ofNat d', UInt8.ofNat e'] := by
    intro a b c d e a' b' c' d' e' h1 h2 h3 h4 h5
    rw [h1, h2, h3, h4, h5]
  refine five _ _ _ _ _ 1 (n % 256) (n / 256) (255 - n % 256) (255 - n / 256) ?_ ?_ ?_ ?_ ?_
  · rfl
  · simp [Math.byteAt]; omega
  · simp [Math.byteAt]; omega
  · simp [Math.byteAt]; omega
  · simp [Math.byteAt]; omega

theorem bytes5 (w : World) (a b c d e : Nat) (C : Array Value) (hC : C = #[.int .u8 ((UInt8.ofNat a).toNat : Int), .int .u8 ((UInt8.ofNat b).toNat : Int), .int .u8 ((UInt8.ofNat c).toNat : Int), .int .u8 ((UInt8.ofNat d).toNat : Int), .int .u8 ((UInt8.ofNat e).toNat : Int)]) :
    (convert 42 9 (.slice (some ⟨w.heap.size, 0, none⟩) 5 5)).run Tryd.prog (w.alloc (.cells C 5)) = .ok (.string ⟨[UInt8.ofNat a, UInt8.ofNat b, UInt8.ofNat c, UInt8.ofNat d, UInt8.ofNat e].toArray⟩) (w.alloc (.cells C 5)) := by
  subst hC
  refine run_convert_bytes_back (w.alloc (.cells _ 5)) 42 9 5 ⟨w.heap.size, 0, none⟩ 5 [UInt8.ofNat a, UInt8.ofNat b, UInt8.ofNat c, UInt8.ofNat d, UInt8.ofNat e] Tryd.underlying42 Tryd.underlying5 Tryd.underlying9 ?_
  intro j hj
  rw [show Addr.add ⟨w.heap.size, 0, none⟩ j = ⟨w.heap.size, j, none⟩ from by simp [Addr.add]; exact Eq.symm, World.cell?_alloc_mark]
  match j, hj with
  | 0, _ => rfl
  | 1, _ => rfl
  | 2, _ => rfl
  | 3, _ => rfl
  | 4, _ => rfl

theorem byte_of' (x : Nat) (a : Int) (h : a = ((x % 256 : Nat) : Int)) : Value.int IntKind.u8 a = .int .u8 ((UInt8.ofNat x).toNat : Int) := by
  rw [h, UInt8.toNat_ofNat']

theorem wr_new (w : World) : Wr w.heap.size w.heap.size [] (w.alloc (.cells #[.slice none 0 0, .int .i64 0] 44)) :=
  ⟨Nat.le_refl _, Math.Bits.nil, .slice none 0 0, heap_new w _, World.ownsRow_nil _ _ _ _⟩

end Pk
end Go.Proofs.YtllmmelnkkmfoajDoor

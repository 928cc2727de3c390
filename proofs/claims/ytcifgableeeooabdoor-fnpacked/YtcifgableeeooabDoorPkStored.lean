/- Contracts of Stored, of the program and of its model. -/
import Derived.Test.YtcifgableeeooabDoorPkBits
namespace Go.Proofs.YtcifgableeeooabDoor
namespace Pk
open Go.ChangeShapes Go.WideShapes Go.ChangeAt Go.RowKit
open Math (Bits bytesOf)
set_option linter.unusedSimpArgs false
set_option linter.unusedVariables false

/-- A text and whether it is one, as a result. -/
abbrev t2' (s : ByteArray) (b : Bool) : Value := .tuple #[.string s, .bool b]

/-- What stands ahead of a stored text of n bytes. -/
def storedHead (n : Nat) : List UInt8 := [1, UInt8.ofNat (n % 256), UInt8.ofNat (n / 256), UInt8.ofNat (255 - n % 256), UInt8.ofNat (255 - n / 256)]

/-- What Stored answers. -/
def storedS (s : ByteArray) : ByteArray := if s.size ≤ 3000 then ⟨(storedHead s.size).toArray⟩ ++ s else ⟨#[]⟩

theorem storedS_yes (s : ByteArray) (h : s.size ≤ 3000) : storedS s = ⟨(storedHead s.size).toArray⟩ ++ s := if_pos h

theorem storedS_no (s : ByteArray) (h : ¬ s.size ≤ 3000) : storedS s = ⟨#[]⟩ := if_neg h

theorem xor_full (n : Nat) (h : n < 65536) : n ^^^ 65535 = 65535 - n := by
  have h1 : (BitVec.ofNat 16 n ^^^ BitVec.allOnes 16).toNat = (~~~ BitVec.ofNat 16 n).toNat := by rw [BitVec.xor_allOnes]
  rw [BitVec.toNat_xor, BitVec.toNat_not, BitVec.toNat_allOnes, BitVec.toNat_ofNat, Nat.mod_eq_of_lt (by omega)] at h1
  exact h1

theorem low16 (n : Nat) : Math.lowL n 16 = [n % 2, n / 2 % 2, n / 4 % 2, n / 8 % 2, n / 16 % 2, n / 32 % 2, n / 64 % 2, n / 128 % 2, n / 256 % 2, n / 512 % 2, n / 1024 % 2, n / 2048 % 2, n / 4096 % 2, n / 8192 % 2, n / 16384 % 2, n / 32768 % 2] := by
  simp [Math.lowL, List.range, List.range.loop]

theorem stored_bytes (n : Nat) (h : n ≤ 3000) : bytesOf ([1] ++ Math.lowL 0 2 ++ Math.lowL 0 5 ++ Math.lowL n 16 ++ Math.lowL (65535 - n) 16) = storedHead n := by
  rw [low16, low16, show Math.lowL 0 2 = [0, 0] from rfl, show Math.lowL 0 5 = [0, 0, 0, 0, 0] from rfl]
  have key : ∀ L : List Nat, L.length = 40 → bytesOf L = [UInt8.ofNat (Math.byteAt L 0), UInt8.ofNat (Math.byteAt L 1), UInt8.ofNat (Math.byteAt L 2), UInt8.ofNat (Math.byteAt L 3), UInt8.ofNat (Math.byteAt L 4)] := by
    intro L hL
    unfold bytesOf
    rw [hL]
    rfl
  rw [key _ rfl]
  have five : ∀ a b c d e a' b' c' d' e' : Nat, a = a' → b = b' → c = c' → d = d' → e = e' → [UInt8.ofNat a, UInt8.ofNat b, UInt8.ofNat c, UInt8.ofNat d, UInt8.ofNat e] = [UInt8.ofNat a', UInt8.ofNat b', UInt8.ofNat c', UInt8.ofNat d', UInt8.ofNat e'] := by
    intro a b c d e a' b' c' d' e' h1 h2 h3 h4 h5
    rw [h1, h2, h3, h4, h5]
  refine five _ _ _ _ _ 1 (n % 256) (n / 256) (255 - n % 256) (255 - n / 256) ?_ ?_ ?_ ?_ ?_
  · rfl
  · simp [Math.byteAt]; omega
  · simp [Math.byteAt]; omega
  · simp [Math.byteAt]; omega
  · simp [Math.byteAt]; omega

theorem bytes5 (w : World) (a b c d e : Nat) (C : Array Value) (hC : C = #[.int .u8 ((UInt8.ofNat a).toNat : Int), .int .u8 ((UInt8.ofNat b).toNat : Int), .int .u8 ((UInt8.ofNat c).toNat : Int), .int .u8 ((UInt8.ofNat d).toNat : Int), .int .u8 ((UInt8.ofNat e).toNat : Int)]) :
    (convert 22 9 (.slice (some ⟨w.heap.size, 0, none⟩) 5 5)).run Tryd.prog (w.alloc (.cells C 5)) = .ok (.string ⟨[UInt8.ofNat a, UInt8.ofNat b, UInt8.ofNat c, UInt8.ofNat d, UInt8.ofNat e].toArray⟩) (w.alloc (.cells C 5)) := by
  subst hC
  refine run_convert_bytes_back (w.alloc (.cells _ 5)) 22 9 5 ⟨w.heap.size, 0, none⟩ 5 [UInt8.ofNat a, UInt8.ofNat b, UInt8.ofNat c, UInt8.ofNat d, UInt8.ofNat e] Tryd.underlying22 Tryd.underlying5 Tryd.underlying9 ?_
  intro j hj
  rw [show Addr.add ⟨w.heap.size, 0, none⟩ j = ⟨w.heap.size, j, none⟩ from by simp [Addr.add]; exact Eq.symm, World.cell?_alloc_mark]
  match j, hj with
  | 0, _ => rfl
  | 1, _ => rfl
  | 2, _ => rfl
  | 3, _ => rfl
  | 4, _ => rfl

theorem byte_of' (x : Nat) (a : Int) (h : a = ((x % 256 : Nat) : Int)) : Value.int IntKind.u8 a = .int .u8 ((UInt8.ofNat x).toNat : Int) := by
  rw [h, UInt8.toNat_ofNat']

set_option maxHeartbeats 1000000 in
theorem specStored_val (s : ByteArray) (w : World) (hs : s.size ≤ maxLen) :
    Calls Tryd.prog 77 #[.string s] w fun e w' => e = .returned (t2' (storedS s) (decide (s.size ≤ 3000))) ∧ Below w.heap.size w w' := by
  unfold maxLen at hs
  by_cases h : s.size ≤ 3000
  · rw [storedS_yes s h, decide_eq_true h]
    generalize hn : s.size = n at *
    have HN : Hid (s.size = n) := hn
    have hk := bytes5 w 1 (n % 256) (n / 256) (255 - n % 256) (255 - n / 256) #[.int .u8 1, .int .u8 ((n : Int) % 256), .int .u8 ((n : Int) / 256), .int .u8 (255 - (n : Int) % 256), .int .u8 (255 - (n : Int) / 256)]
      (by rw [byte_of' (n % 256) ((n : Int) % 256) (by omega), byte_of' (n / 256) ((n : Int) / 256) (by omega), byte_of' (255 - n % 256) (255 - (n : Int) % 256) (by omega), byte_of' (255 - n / 256) (255 - (n : Int) / 256) (by omega)]; rfl)
    have h8 : ¬ ((⟨(storedHead n).toArray⟩ : ByteArray).size + s.size > 9223372036854775807) := by
      rw [hn, show (⟨(storedHead n).toArray⟩ : ByteArray).size = 5 from rfl]
      omega
    have hd : decide ((3000 : Int) < (n : Int)) = false := decide_eq_false (by omega)
    have hk' : (convert 22 9 (.slice (some ⟨w.heap.size, 0, none⟩) 5 5)).run Tryd.prog (w.alloc (.cells #[.int .u8 1, .int .u8 ((n : Int) % 256), .int .u8 ((n : Int) / 256), .int .u8 (255 - (n : Int) % 256), .int .u8 (255 - (n : Int) / 256)] 5)) = .ok (.string ⟨(storedHead n).toArray⟩) (w.alloc (.cells #[.int .u8 1, .int .u8 ((n : Int) % 256), .int .u8 ((n : Int) / 256), .int .u8 (255 - (n : Int) % 256), .int .u8 (255 - (n : Int) / 256)] 5)) := hk
    clear hk
    generalize (⟨(storedHead n).toArray⟩ : ByteArray) = S at *
    go_enter Tryd.func77, Tryd.ntmps77
    go_wp2
    go_ret2
    exact ⟨rfl, new_below _ _⟩
  · rw [storedS_no s h, decide_eq_false h]
    have hd : decide ((3000 : Int) < (s.size : Int)) = true := decide_eq_true (by omega)
    clear h
    go_enter Tryd.func77, Tryd.ntmps77
    go_wp2
    go_ret2
    exact ⟨rfl, Below.refl _ _⟩

theorem wr_new (w : World) : Wr w.heap.size w.heap.size [] (w.alloc (.cells #[.slice none 0 0, .int .i64 0] 79)) :=
  ⟨Nat.le_refl _, Math.Bits.nil, .slice none 0 0, heap_new w _, World.ownsRow_nil _ _ _ _⟩

set_option maxHeartbeats 1000000 in
theorem implStored_val (s : ByteArray) (w : World) (hs : s.size ≤ maxLen) :
    Calls Tryd.prog 17 #[.string s] w fun e w' => e = .returned (t2' (storedS s) (decide (s.size ≤ 3000))) ∧ Below w.heap.size w w' := by
  unfold maxLen at hs
  by_cases h : s.size ≤ 3000
  · rw [storedS_yes s h, decide_eq_true h]
    generalize hn : s.size = n at *
    have HN : Hid (s.size = n) := hn
    have h8 : ¬ ((⟨(storedHead n).toArray⟩ : ByteArray).size + s.size > 9223372036854775807) := by
      rw [hn, show (⟨(storedHead n).toArray⟩ : ByteArray).size = 5 from rfl]
      omega
    have hd : decide ((3000 : Int) < (n : Int)) = false := decide_eq_false (by omega)
    have hx : bits BinOp.xor IntKind.i64 (n : Int) 65535 = ((65535 - n : Nat) : Int) := by
      have := Math.bits_xor_i64 n 65535 (by omega) (by omega)
      rw [xor_full n (by omega)] at this
      exact this
    have W0 := wr_new w
    have L0 := new_below w (.cells #[.slice none 0 0, .int .i64 0] 79)
    have HB : Hid (_) := stored_bytes n h
    generalize hS : (⟨(storedHead n).toArray⟩ : ByteArray) = S at *
    have HS : Hid (_) := hS
    clear hS
    generalize hm : 65535 - n = m at *
    have hm2 : m < 4294967296 := by omega
    go_enter Tryd.func17, Tryd.ntmps17
    go_wp2_with fail
    refine (head_val _ _ 0 _ W0 L0.size (by omega)).mono ?_
    rintro e w1 ⟨rfl, W1, L1, -⟩
    have hB1 : w.heap.size ≤ w1.heap.size := Nat.le_trans L0.size L1.size
    have c1 : w1.cell? ⟨w.heap.size, 1, none⟩ = some (.int .i64 3) := by
      obtain ⟨-, -, v, m1, -⟩ := W1
      exact cell_at m1 1
    have L2 := L0.trans L1
    clear W0 L0 L1
    go_wp2_with fail
    refine (low_val _ _ _ 0 5 _ W1 hB1 (by omega) (by omega) (by simp [Math.lowL])).mono ?_
    rintro e w3 ⟨rfl, W3, L3, -⟩
    have L4 := L2.trans L3
    have hB3 : w.heap.size ≤ w3.heap.size := L4.size
    clear L2 L3 W1 c1
    go_wp2_with fail
    refine (low_val _ _ _ n 16 _ W3 hB3 (by omega) (by omega) (by simp [Math.lowL])).mono ?_
    rintro e w5 ⟨rfl, W5, L5, -⟩
    have L6 := L4.trans L5
    have hB5 : w.heap.size ≤ w5.heap.size := L6.size
    clear L4 L5 W3
    go_wp2_with fail
    refine (low_val _ _ _ m 16 _ W5 hB5 hm2 (by omega) (by simp [Math.lowL])).mono ?_
    rintro e w7 ⟨rfl, W7, L7, -⟩
    have L8 := L6.trans L7
    clear L6 L7 W5
    obtain ⟨-, -, v, m7, hown⟩ := W7
    rw [HB.out] at hown
    have hconv := conv_own hown
    have c0 : w7.cell? ⟨w.heap.size, 0, none⟩ = some v := cell_at m7 0
    obtain ⟨va, vc, rfl, -⟩ := own_form hown
    clear m7 hown
    rw [HS.out] at hconv
    generalize (storedHead n).length = M at *
    go_wp2
    go_ret2
    exact ⟨rfl, L8⟩
  · rw [storedS_no s h, decide_eq_false h]
    have hd : decide ((3000 : Int) < (s.size : Int)) = true := decide_eq_true (by omega)
    clear h
    go_enter Tryd.func17, Tryd.ntmps17
    go_wp2
    go_ret2
    exact ⟨rfl, Below.refl _ _⟩

end Pk
end Go.Proofs.YtcifgableeeooabDoor

/- Records, logs that they are put behind, and logs that are torn: the model. -/
import Derived.Test.YtdfejmaekdgcdarPkRow
import Derived.Test.YtdfejmaekdgcdarNumSum
import Derived.Test.YtdfejmaekdgcdarNumWord
namespace Go.Proofs.Ytdfejmaekdgcdar
namespace Lg10
open Go.ChangeShapes Go.WideShapes Go.ChangeAt Go.RowKit
open Pk (new_below join_below)
set_option linter.unusedSimpArgs false
set_option linter.unusedVariables false

/-- A record of a text. -/
def recS (s : ByteArray) : ByteArray := Num.wordS s.size ++ Num.wordS (Math.crc s.data.toList) ++ s

theorem recS_size (s : ByteArray) : (recS s).size = s.size + 8 := by
  unfold recS
  rw [ByteArray.size_append, ByteArray.size_append, Num.wordS_size, Num.wordS_size]
  omega

/-- What Record answers. -/
def rcS (s : ByteArray) : ByteArray := if s.size ≤ 3000 then recS s else ⟨#[]⟩
def rcB (s : ByteArray) : Bool := decide (s.size ≤ 3000)

theorem rcS_size (s : ByteArray) : (rcS s).size ≤ 3008 := by
  unfold rcS
  split
  · rw [recS_size]
    omega
  · show 0 ≤ _
    omega

set_option maxHeartbeats 1000000 in
theorem specRecord_val (s : ByteArray) (w : World) (hs : s.size ≤ maxLen) :
    Calls Try.prog 22 #[.string s] w fun e w' => e = .returned (.tuple #[.string (rcS s), .bool (rcB s)]) ∧ Below w.heap.size w w' := by
  have hm := hs
  unfold maxLen at hs
  unfold rcS rcB
  by_cases h : s.size ≤ 3000
  · rw [if_pos h, decide_eq_true h]
    have HW1 : Hid (∀ W, _) := fun W => Num.specWordText_any s.size W (by omega)
    have HC : Hid (∀ W, _) := fun W => Num.specCheckSum_any s W hm
    have HW2 : Hid (∀ W, _) := fun W => Num.specWordText_any (Math.crc s.data.toList) W (Math.crc_lt _)
    have HR : Hid (recS s = Num.wordS s.size ++ Num.wordS (Math.crc s.data.toList) ++ s) := rfl
    have l1 : (Num.wordS s.size).size = 4 := Num.wordS_size _
    have l2 : (Num.wordS (Math.crc s.data.toList)).size = 4 := Num.wordS_size _
    have z1 : IntKind.u32.wrap (s.size : Int) = (s.size : Int) := by rw [IntKind.wrap_u32]; omega
    have hI : ¬ (3000 : Int) < (s.size : Int) := by omega
    generalize Num.wordS (Math.crc s.data.toList) = W2 at *
    generalize Num.wordS s.size = W1 at *
    generalize Math.crc s.data.toList = C at *
    have q1 : ¬ 9223372036854775807 < W1.size + W2.size := by omega
    have q2 : ¬ 9223372036854775807 < W1.size + W2.size + s.size := by omega
    go_enter Try.func22, Try.ntmps22
    go_wp2_with fail
    refine (HW1.out _).mono ?_
    rintro e w1 ⟨rfl, -, L1⟩
    go_wp2_with fail
    refine (HC.out _).mono ?_
    rintro e w2 ⟨rfl, rfl⟩
    go_wp2_with fail
    refine (HW2.out _).mono ?_
    rintro e w3 ⟨rfl, -, L3⟩
    have K3 := join_below L1 L3
    go_wp2
    go_ret2
    exact ⟨by rw [HR.out]; rfl, K3⟩
  · rw [if_neg h, decide_eq_false h]
    have hI : (3000 : Int) < (s.size : Int) := by omega
    go_enter Try.func22, Try.ntmps22
    go_wp2
    go_ret2
    exact ⟨rfl, Below.refl _ _⟩

/-- What Torn answers. -/
def tornS (l : ByteArray) (n : Int) : ByteArray := if n < 0 then ⟨#[]⟩ else if (l.size : Int) < n then l else l.extract 0 n.toNat

/-- What Append answers. -/
def apB (l s : ByteArray) : Bool := rcB s && decide (l.size + (rcS s).size ≤ 200000)
def apS (l s : ByteArray) : ByteArray := if apB l s = true then l ++ recS s else l

set_option maxHeartbeats 1000000 in
theorem specAppend_val (l s : ByteArray) (w : World) (hl : l.size ≤ maxLen) (hs : s.size ≤ maxLen) :
    Calls Try.prog 29 #[.string l, .string s] w fun e w' => e = .returned (.tuple #[.string (apS l s), .bool (apB l s)]) ∧ Below w.heap.size w w' := by
  have HRV : Hid (∀ W, _) := fun W => specRecord_val s W hs
  have hrz := rcS_size s
  have HAB : Hid (apB l s = (rcB s && decide (l.size + (rcS s).size ≤ 200000))) := rfl
  have HAS : Hid (apS l s = if apB l s = true then l ++ recS s else l) := rfl
  have HRR : Hid (rcB s = true → rcS s = recS s) := fun h => by
    unfold rcB at h
    unfold rcS
    rw [if_pos (of_decide_eq_true h)]
  generalize rcS s = r at *
  generalize hb : rcB s = b at *
  unfold maxLen at hl
  cases b
  · have e1 : apB l s = false := by rw [HAB.out]; rfl
    have e2 : apS l s = l := by rw [HAS.out, if_neg (by rw [e1]; simp)]
    rw [e1, e2]
    go_enter Try.func29, Try.ntmps29
    go_wp2_with fail
    refine (HRV.out _).mono ?_
    rintro e w1 ⟨rfl, L1⟩
    go_wp2
    go_ret2
    exact ⟨rfl, L1⟩
  · have hr := HRR.out rfl
    by_cases h2 : l.size + r.size ≤ 200000
    · have e1 : apB l s = true := by rw [HAB.out, decide_eq_true h2]; rfl
      have e2 : apS l s = l ++ r := by rw [HAS.out, if_pos e1, hr]
      rw [e1, e2]
      have h3 : ¬ (200000 : Int) - (r.size : Int) < (l.size : Int) := by omega
      have q1 : ¬ 9223372036854775807 < l.size + r.size := by omega
      clear hr HAS HRR
      go_enter Try.func29, Try.ntmps29
      go_wp2_with fail
      refine (HRV.out _).mono ?_
      rintro e w1 ⟨rfl, L1⟩
      go_wp2
      go_ret2
      exact ⟨rfl, L1⟩
    · have e1 : apB l s = false := by rw [HAB.out, decide_eq_false h2]; rfl
      have e2 : apS l s = l := by rw [HAS.out, if_neg (by rw [e1]; simp)]
      rw [e1, e2]
      have h3 : (200000 : Int) - (r.size : Int) < (l.size : Int) := by omega
      clear hr HAS HRR
      go_enter Try.func29, Try.ntmps29
      go_wp2_with fail
      refine (HRV.out _).mono ?_
      rintro e w1 ⟨rfl, L1⟩
      go_wp2
      go_ret2
      exact ⟨rfl, L1⟩

end Lg10
end Go.Proofs.Ytdfejmaekdgcdar

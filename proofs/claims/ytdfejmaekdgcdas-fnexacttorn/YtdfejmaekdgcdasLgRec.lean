/- Records, logs that they are put behind, and logs that are torn: the model. -/
import Derived.Test.YtdfejmaekdgcdasPkRow
import Derived.Test.YtdfejmaekdgcdasNumSum
import Derived.Test.YtdfejmaekdgcdasNumWord
namespace Go.Proofs.Ytdfejmaekdgcdas
namespace Lg10
open Go.ChangeShapes Go.WideShapes Go.ChangeAt Go.RowKit
open Pk (new_below join_below)
set_option linter.unusedSimpArgs false
set_option linter.unusedVariables false

/-- A record of a text. -/
def recS (s : ByteArray) : ByteArray := Num.wordS s.size ++ Num.wordS (Math.crc s.data.toList) ++ s

theorem recS_size (s : ByteArray) : (recS s).size = s.size + 8 := by
  unfold recS
  rw [ByteArray.size_append, ByteArray.size_append, Num.wordS_size, Num.wordS_size]
  omega

/-- What Record answers. -/
def rcS (s : ByteArray) : ByteArray := if s.size ≤ 3000 then recS s else ⟨#[]⟩
def rcB (s : ByteArray) : Bool := decide (s.size ≤ 3000)

theorem rcS_size (s : ByteArray) : (rcS s).size ≤ 3008 := by
  unfold rcS
  split
  · rw [recS_size]
    omega
  · show 0 ≤ _
    omega

/-- What Torn answers. -/
def tornS (l : ByteArray) (n : Int) : ByteArray := if n < 0 then ⟨#[]⟩ else if (l.size : Int) < n then l else l.extract 0 n.toNat

theorem specTorn_val (l : ByteArray) (n : Int) (w : World) (hl : l.size ≤ maxLen) :
    Calls Try.prog 4 #[.string l, .int .i64 n] w fun e w' => e = .returned (.string (tornS l n)) ∧ w' = w := by
  unfold maxLen at hl
  unfold tornS
  by_cases h0 : n < 0
  · rw [if_pos h0]
    go_enter Try.func4, Try.ntmps4
    go_wp2
    go_ret
    exact ⟨rfl, rfl⟩
  · rw [if_neg h0]
    by_cases h1 : (l.size : Int) < n
    · rw [if_pos h1]
      go_enter Try.func4, Try.ntmps4
      go_wp2
      go_ret
      exact ⟨rfl, rfl⟩
    · rw [if_neg h1]
      obtain ⟨k, rfl⟩ : ∃ k : Nat, n = k := ⟨n.toNat, by omega⟩
      rw [Int.toNat_natCast]
      have h2 : (k : Int) ≤ (l.size : Int) := by omega
      have h3 : (0 : Int) ≤ (k : Int) := by omega
      go_enter Try.func4, Try.ntmps4
      go_wp2
      go_ret
      exact ⟨rfl, rfl⟩

/-- What Append answers. -/
def apB (l s : ByteArray) : Bool := rcB s && decide (l.size + (rcS s).size ≤ 200000)
def apS (l s : ByteArray) : ByteArray := if apB l s = true then l ++ recS s else l

end Lg10
end Go.Proofs.Ytdfejmaekdgcdas

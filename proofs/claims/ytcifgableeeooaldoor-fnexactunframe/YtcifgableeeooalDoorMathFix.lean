/- The mathematics of chapter 3: a fixed block that is read. -/
import Derived.Test.YtcifgableeeooalDoorUnStored
import Derived.Test.YtcifgableeeooalDoorMathWhole
namespace Go.Proofs.YtcifgableeeooalDoor
namespace Math

/-- The length that the code y tells from the place a on; how many bits it takes. -/
def lenBits (y : Nat) : Nat := if y = 285 then 0 else cbits 4 (y - 257)

def lenTold (s : ByteArray) (a y : Nat) : Nat := if y = 285 then 258 else cleast 4 (y - 257) + 3 + lowAt s a (cbits 4 (y - 257))

/-- The way back that the code k tells from the place a on. -/
def backTold (s : ByteArray) (a k : Nat) : Nat := cleast 2 k + 1 + lowAt s a (cbits 2 k)

/-- A fixed block from the place a on, behind the text out: what it is told to be, its text, the place behind it. -/
def fixFrom (s : ByteArray) : Nat → Nat → List UInt8 → Nat × List UInt8 × Nat
  | 0, a, _ => (1, [], a)
  | f + 1, a, out =>
    if 8 * s.size < a + symLen s a then (1, [], a)
    else if symAt s a = 256 then (0, out, a + symLen s a)
    else if symAt s a < 256 then if 3000 < out.length + 1 then (5, [], a) else fixFrom s f (a + symLen s a) (out ++ [UInt8.ofNat (symAt s a)])
    else if 285 < symAt s a then (3, [], a)
    else if 8 * s.size < a + symLen s a + lenBits (symAt s a) + 5 then (1, [], a)
    else if 29 < topAt s (a + symLen s a + lenBits (symAt s a)) 5 then (3, [], a)
    else if 8 * s.size < a + symLen s a + lenBits (symAt s a) + 5 + cbits 2 (topAt s (a + symLen s a + lenBits (symAt s a)) 5) then (1, [], a)
    else if out.length < backTold s (a + symLen s a + lenBits (symAt s a) + 5) (topAt s (a + symLen s a + lenBits (symAt s a)) 5) then (4, [], a)
    else if 3000 < out.length + lenTold s (a + symLen s a) (symAt s a) then (5, [], a)
    else fixFrom s f (a + symLen s a + lenBits (symAt s a) + 5 + cbits 2 (topAt s (a + symLen s a + lenBits (symAt s a)) 5)) (copyN out (backTold s (a + symLen s a + lenBits (symAt s a) + 5) (topAt s (a + symLen s a + lenBits (symAt s a)) 5)) (lenTold s (a + symLen s a) (symAt s a)))

theorem symLen_bd (s : ByteArray) (a : Nat) : 7 ≤ symLen s a ∧ symLen s a ≤ 9 := by
  unfold symLen
  split
  · omega
  · split <;> omega

theorem symAt_lt (s : ByteArray) (a : Nat) : symAt s a < 288 := by
  have h9 := topAt_lt s a 9
  unfold symAt
  split
  · omega
  · split
    · omega
    · split
      · omega
      · omega

/-- More steps than places that are left tell nothing else. -/
theorem fixFrom_more (s : ByteArray) (f : Nat) : ∀ (a : Nat) (out : List UInt8) (k : Nat), 8 * s.size < a + 7 * f → a ≤ 8 * s.size → fixFrom s (f + k) a out = fixFrom s f a out := by
  induction f with
  | zero => intro a out k h1 h2; omega
  | succ f ih =>
    intro a out k h1 h2
    have hb := symLen_bd s a
    rw [show f + 1 + k = (f + k) + 1 by omega]
    unfold fixFrom
    split
    · rfl
    · split
      · rfl
      · split
        · split
          · rfl
          · exact ih _ _ _ (by omega) (by omega)
        · split
          · rfl
          · split
            · rfl
            · split
              · rfl
              · split
                · rfl
                · split
                  · rfl
                  · split
                    · rfl
                    · exact ih _ _ _ (by omega) (by omega)

end Math
end Go.Proofs.YtcifgableeeooalDoor

/- A fixed block that is read, one step at a time: the mathematics. -/
import Derived.Test.YtcifgableeeooalDoorUnFixed
namespace Go.Proofs.YtcifgableeeooalDoor
namespace Math

variable {s : ByteArray} {g a : Nat} {out : List UInt8}

theorem fix_cut (h : 8 * s.size < a + symLen s a) : fixFrom s (g + 1) a out = (1, [], a) := by rw [fixFrom, if_pos h]

theorem fix_end (h : ¬ 8 * s.size < a + symLen s a) (h2 : symAt s a = 256) : fixFrom s (g + 1) a out = (0, out, a + symLen s a) := by rw [fixFrom, if_neg h, if_pos h2]

theorem fix_full (h : ¬ 8 * s.size < a + symLen s a) (h2 : symAt s a < 256) (h3 : 3000 < out.length + 1) : fixFrom s (g + 1) a out = (5, [], a) := by rw [fixFrom, if_neg h, if_neg (by omega), if_pos h2, if_pos h3]

theorem fix_byte (h : ¬ 8 * s.size < a + symLen s a) (h2 : symAt s a < 256) (h3 : ¬ 3000 < out.length + 1) : fixFrom s (g + 1) a out = fixFrom s g (a + symLen s a) (out ++ [UInt8.ofNat (symAt s a)]) := by rw [fixFrom, if_neg h, if_neg (by omega), if_pos h2, if_neg h3]

theorem fix_sym (h : ¬ 8 * s.size < a + symLen s a) (h2 : 285 < symAt s a) : fixFrom s (g + 1) a out = (3, [], a) := by rw [fixFrom, if_neg h, if_neg (by omega), if_neg (by omega), if_pos h2]

/-- Where the code of the way back begins, and where what is behind it. -/
def p1 (s : ByteArray) (a : Nat) : Nat := a + symLen s a + lenBits (symAt s a)
def bk (s : ByteArray) (a : Nat) : Nat := topAt s (p1 s a) 5
def p2' (s : ByteArray) (a : Nat) : Nat := p1 s a + 5 + cbits 2 (bk s a)
def dd (s : ByteArray) (a : Nat) : Nat := backTold s (p1 s a + 5) (bk s a)
def nn (s : ByteArray) (a : Nat) : Nat := lenTold s (a + symLen s a) (symAt s a)

theorem fix_cut2 (h : ¬ 8 * s.size < a + symLen s a) (h2 : 256 < symAt s a) (h3 : symAt s a ≤ 285) (h4 : 8 * s.size < p1 s a + 5) : fixFrom s (g + 1) a out = (1, [], a) := by
  unfold p1 at h4
  rw [fixFrom, if_neg h, if_neg (by omega), if_neg (by omega), if_neg (by omega), if_pos h4]

theorem fix_sym2 (h : ¬ 8 * s.size < a + symLen s a) (h2 : 256 < symAt s a) (h3 : symAt s a ≤ 285) (h4 : ¬ 8 * s.size < p1 s a + 5) (h5 : 29 < bk s a) : fixFrom s (g + 1) a out = (3, [], a) := by
  unfold bk p1 at h5
  unfold p1 at h4
  rw [fixFrom, if_neg h, if_neg (by omega), if_neg (by omega), if_neg (by omega), if_neg h4, if_pos h5]

theorem fix_cut3 (h : ¬ 8 * s.size < a + symLen s a) (h2 : 256 < symAt s a) (h3 : symAt s a ≤ 285) (h4 : ¬ 8 * s.size < p1 s a + 5) (h5 : ¬ 29 < bk s a) (h6 : 8 * s.size < p2' s a) : fixFrom s (g + 1) a out = (1, [], a) := by
  unfold p2' bk p1 at h6
  unfold bk p1 at h5
  unfold p1 at h4
  rw [fixFrom, if_neg h, if_neg (by omega), if_neg (by omega), if_neg (by omega), if_neg h4, if_neg h5, if_pos h6]

theorem fix_back (h : ¬ 8 * s.size < a + symLen s a) (h2 : 256 < symAt s a) (h3 : symAt s a ≤ 285) (h4 : ¬ 8 * s.size < p1 s a + 5) (h5 : ¬ 29 < bk s a) (h6 : ¬ 8 * s.size < p2' s a) (h7 : out.length < dd s a) : fixFrom s (g + 1) a out = (4, [], a) := by
  unfold dd bk p1 at h7
  unfold p2' bk p1 at h6
  unfold bk p1 at h5
  unfold p1 at h4
  rw [fixFrom, if_neg h, if_neg (by omega), if_neg (by omega), if_neg (by omega), if_neg h4, if_neg h5, if_neg h6, if_pos h7]

theorem fix_long (h : ¬ 8 * s.size < a + symLen s a) (h2 : 256 < symAt s a) (h3 : symAt s a ≤ 285) (h4 : ¬ 8 * s.size < p1 s a + 5) (h5 : ¬ 29 < bk s a) (h6 : ¬ 8 * s.size < p2' s a) (h7 : ¬ out.length < dd s a) (h8 : 3000 < out.length + nn s a) : fixFrom s (g + 1) a out = (5, [], a) := by
  unfold nn at h8
  unfold dd bk p1 at h7
  unfold p2' bk p1 at h6
  unfold bk p1 at h5
  unfold p1 at h4
  rw [fixFrom, if_neg h, if_neg (by omega), if_neg (by omega), if_neg (by omega), if_neg h4, if_neg h5, if_neg h6, if_neg h7, if_pos h8]

theorem fix_copy (h : ¬ 8 * s.size < a + symLen s a) (h2 : 256 < symAt s a) (h3 : symAt s a ≤ 285) (h4 : ¬ 8 * s.size < p1 s a + 5) (h5 : ¬ 29 < bk s a) (h6 : ¬ 8 * s.size < p2' s a) (h7 : ¬ out.length < dd s a) (h8 : ¬ 3000 < out.length + nn s a) : fixFrom s (g + 1) a out = fixFrom s g (p2' s a) (copyN out (dd s a) (nn s a)) := by
  unfold nn dd p2' bk p1
  unfold nn at h8
  unfold dd bk p1 at h7
  unfold p2' bk p1 at h6
  unfold bk p1 at h5
  unfold p1 at h4
  rw [fixFrom, if_neg h, if_neg (by omega), if_neg (by omega), if_neg (by omega), if_neg h4, if_neg h5, if_neg h6, if_neg h7, if_neg h8]

theorem bk_lt (s : ByteArray) (a : Nat) : bk s a < 32 := topAt_lt s (p1 s a) 5

theorem nn_is (s : ByteArray) (a : Nat) : nn s a = lenLeast (symAt s a) + lowAt s (a + symLen s a) (lenBits (symAt s a)) := lenTold_is _ _ _

theorem dd_is (s : ByteArray) (a : Nat) : dd s a = cleast 2 (bk s a) + 1 + lowAt s (p1 s a + 5) (cbits 2 (bk s a)) := rfl

theorem back_bds : ∀ k, k ≤ 29 → cleast 2 k ≤ 40000 ∧ cbits 2 k ≤ 13 := by decide +kernel

end Math
end Go.Proofs.YtcifgableeeooalDoor

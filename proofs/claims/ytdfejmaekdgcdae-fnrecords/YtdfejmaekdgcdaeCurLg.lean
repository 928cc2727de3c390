/- The draws of logs. -/
import Derived.Test.YtdfejmaekdgcdaeCurSpl
import Derived.Test.YtdfejmaekdgcdaeLgRec
namespace Go.Proofs.Ytdfejmaekdgcdae
namespace Cur
open Go.ChangeShapes Go.WideShapes Go.ChangeAt Go.RowKit
set_option linter.unusedSimpArgs false
set_option linter.unusedVariables false

theorem apS_size (l s : ByteArray) : (Lg10.apS l s).size ≤ l.size + s.size + 8 := by
  unfold Lg10.apS
  split
  · rw [ByteArray.size_append, Lg10.recS_size]
    omega
  · omega

set_option maxRecDepth 100000 in
set_option maxHeartbeats 2000000 in
theorem log_any {W0 : World} {a : Option Addr} {n cap c : Nat} {w : World} (C : Is W0 a n cap c w) :
    Calls Try.prog 15 #[.pointer (some ⟨c, 0, none⟩)] w fun e w' => (∃ r : ByteArray, e = .returned (.string r) ∧ r.size ≤ 400) ∧ Is W0 a n cap c w' := by
  go_enter Try.func15, Try.ntmps15
  go_wp2_with fail
  refine (below_any C 6).mono ?_
  rintro e w1 ⟨⟨x, rfl, hx0, hx1⟩, C1, -⟩
  have hx2 := hx1 (by omega)
  obtain ⟨m, rfl⟩ : ∃ m : Nat, x = m := ⟨x.toNat, by omega⟩
  clear C hx1 hx0
  go_wp2
  go_loopw [3, 5] (fun v i wr => ∃ (k : Nat) (r : ByteArray), i = .int .i64 k ∧ v = .string r ∧ k ≤ m ∧ r.size ≤ 40 * k ∧ Hid (Is W0 a n cap c wr)) (fun _ i _ => m - (intOf i).toNat)
  case atStart => exact ⟨0, ⟨#[]⟩, rfl, rfl, by omega, Nat.le_refl _, C1⟩
  case round =>
    clear C1
    obtain ⟨k, r, rfl, rfl, hk, hr, C2⟩ := hrel
    by_cases hlt : k < m
    · have hkI : (k : Int) < (m : Int) := by omega
      go_wp2_with fail
      refine (below_any C2.out 30).mono ?_
      rintro e w2 ⟨⟨y, rfl, hy0, hy1⟩, C3, -⟩
      have hy2 := hy1 (by omega)
      obtain ⟨q, rfl⟩ : ∃ q : Nat, y = q := ⟨y.toNat, by omega⟩
      clear hy1 hy0
      go_wp2_with fail
      refine (bytes_any C3 q (by omega)).mono ?_
      rintro e w3 ⟨⟨s, rfl, hs⟩, C4⟩
      have HAP : Hid (∀ W, _) := fun W => Lg10.specAppend_val r s W (by unfold maxLen; omega) (by unfold maxLen; omega)
      have hz := apS_size r s
      generalize Lg10.apS r s = r2 at *
      generalize Lg10.apB r s = b2 at *
      go_wp2_with fail
      refine (HAP.out _).mono ?_
      rintro e w4 ⟨rfl, L4⟩
      have C5 := C4.kept L4
      clear C3 C4 L4 C2 HAP
      go_wp2
      go_roundw
      case rel => exact ⟨k + 1, r2, by go_num, rfl, by omega, by omega, C5⟩
      case measure => simp [intOf]; omega
    · have hkI : ¬ (k : Int) < (m : Int) := by omega
      go_wp2_with fail
      refine (spoil_any C2.out r (by omega)).mono ?_
      rintro e w5 ⟨⟨r2, rfl, hr2⟩, C5, -⟩
      go_wp2
      go_ret
      exact ⟨⟨r2, rfl, by omega⟩, C5⟩

set_option maxRecDepth 100000 in
set_option maxHeartbeats 2000000 in
theorem drawAppend (W0 : World) (a : Option Addr) (n cap : Nat) (hn : n ≤ 1048576) (B : Bytes W0 a n) :
    Calls Try.prog 5 #[.slice a n cap] W0 fun e w' => (∃ l s : ByteArray, e = .returned (.tuple #[.string l, .string s]) ∧ l.size ≤ 400 ∧ s.size ≤ 3001) ∧ Below W0.heap.size W0 w' := by
  have HN := new_any W0 a n cap hn B
  go_enter Try.func5, Try.ntmps5
  go_wp2_with fail
  refine HN.mono ?_
  rintro e w1 ⟨rfl, C1⟩
  generalize hcc : W0.heap.size = c at *
  go_wp2_with fail
  refine (log_any C1).mono ?_
  rintro e w2 ⟨⟨l, rfl, hl⟩, C2⟩
  go_wp2_with fail
  refine (below_any C2 30).mono ?_
  rintro e w3 ⟨⟨x, rfl, hx0, hx1⟩, C3, -⟩
  have hx2 := hx1 (by omega)
  obtain ⟨k0, rfl⟩ : ∃ m : Nat, x = m := ⟨x.toNat, by omega⟩
  clear HN C1 C2 hx1
  go_wp2_with fail
  refine (once_any C3 30).mono ?_
  rintro e w4 ⟨⟨bb, rfl⟩, C4, -⟩
  clear C3
  cases bb
  · go_wp2_with fail
    refine (bytes_any C4 k0 (by omega)).mono ?_
    rintro e w5 ⟨⟨s, rfl, hs⟩, C5⟩
    have L := C5.below
    go_wp2
    go_ret2
    exact ⟨⟨l, s, rfl, hl, by omega⟩, L⟩
  · go_wp2_with fail
    refine (below_any C4 2).mono ?_
    rintro e w5 ⟨⟨y, rfl, hy0, hy1⟩, C5, -⟩
    have hy2 := hy1 (by omega)
    obtain ⟨k1, rfl⟩ : ∃ m : Nat, y = m := ⟨y.toNat, by omega⟩
    have HBY : Hid (∀ _ : Unit, _) := fun _ => bytes_any C5 (3000 + k1) (by omega)
    rw [show ((3000 + k1 : Nat) : Int) = 3000 + (k1 : Int) from by omega] at HBY
    clear hy1
    go_wp2_with fail
    refine (HBY.out ()).mono ?_
    rintro e w6 ⟨⟨s, rfl, hs⟩, C6⟩
    have L := C6.below
    go_wp2
    go_ret2
    exact ⟨⟨l, s, rfl, hl, by omega⟩, L⟩

end Cur
end Go.Proofs.Ytdfejmaekdgcdae

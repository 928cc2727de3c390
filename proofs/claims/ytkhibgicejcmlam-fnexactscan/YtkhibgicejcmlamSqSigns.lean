/- The program's signsOf: a text's bits as signs. -/
import Derived.Test.YtkhibgicejcmlamSqPaintI
namespace Go.Proofs.Ytkhibgicejcmlam
namespace Sq
open Go.ChangeShapes Go.WideShapes Go.ChangeAt Go.RowKit
set_option linter.unusedSimpArgs false
set_option linter.unusedVariables false

theorem and_one_u8 (a : Nat) (ha : a < 256) : bits .and .u8 (a : Int) 1 = ((a % 2 : Nat) : Int) := by
  have h1 : (BitVec.ofInt 8 (a : Int)).toNat = a := by
    rw [BitVec.ofInt_natCast, BitVec.toNat_ofNat]; exact Nat.mod_eq_of_lt (by omega)
  show IntKind.u8.wrap ((BitVec.ofInt 8 (a : Int) &&& BitVec.ofInt 8 1).toNat : Int) = _
  rw [BitVec.toNat_and, h1]
  show IntKind.u8.wrap ((a &&& 1 : Nat) : Int) = _
  rw [Nat.and_one_is_mod, IntKind.wrap_u8]
  omega

/-- Bits as signs. -/
def sgn (l : List Nat) : List UInt8 := l.map fun b => UInt8.ofNat (48 + b)

theorem sgn_snoc (l : List Nat) (b : Nat) : sgn (l ++ [b]) = sgn l ++ [UInt8.ofNat (48 + b)] := by unfold sgn; simp

theorem sgn_append (l m : List Nat) : sgn (l ++ m) = sgn l ++ sgn m := by unfold sgn; simp

theorem bcells_snoc1 (l : List UInt8) (b : Nat) (hb : b ≤ 1) : Pk.bcells l ++ [.int .u8 (48 + (b : Int))] = Pk.bcells (l ++ [UInt8.ofNat (48 + b)]) := by
  unfold Pk.bcells
  rw [List.map_append, List.map_cons, List.map_nil, UInt8.toNat_ofNat', Nat.mod_eq_of_lt (by omega)]
  congr 3

set_option maxHeartbeats 2000000 in
theorem signsOf_val (s : ByteArray) (w : World) (hs : s.size ≤ 1000) :
    Calls Try.prog 41 #[.string s] w fun e w' => e = .returned (.string ⟨(sgn (bitsL s.data.toList)).toArray⟩) ∧ Below w.heap.size w w' := by
  obtain ⟨i0, hi, hz0, hz1, hz2⟩ := Pk.info_of info_u8
  obtain ⟨w1, hmk, O1, G1⟩ := run_make_own (P := Try.prog) w w.heap.size 50 5 i0 (.int .u8 0) 1 Try.underlying50 hi hz0 hz1 .i64 .i64 (8 * s.size) (by rw [hz2]; omega) (by unfold maxLen; omega) (Nat.le_refl _)
  have e8 : ((8 * s.size : Nat) : Int) = 8 * (s.size : Int) := by omega
  rw [e8] at hmk
  have L1 : Below w.heap.size w w1 := (Below.refl _ _).grown G1 (Nat.le_refl _) (by intro k hk; cases hk)
  clear e8 G1
  go_enter Try.func41, Try.ntmps41
  go_wp2
  go_loopw [3, 12] (fun v i wr => ∃ k : Nat, k ≤ s.size ∧ i = .int .i64 k ∧ wr.ownsRow w.heap.size 5 1 v (8 * k) (Pk.bcells (sgn (bitsL (s.data.toList.take k)))) ∧ Hid (Below w.heap.size w wr)) (fun _ i _ => s.size - (intOf i).toNat)
  case atStart => exact ⟨0, by omega, rfl, O1, L1⟩
  case round =>
    clear O1 L1 hmk
    obtain ⟨k, hk, rfl, O, L⟩ := hrel
    by_cases hlt : k < s.size
    · have HN : Hid (sgn (bitsL (s.data.toList.take (k + 1))) = sgn (bitsL (s.data.toList.take k)) ++ sgn (Math.highP s[k].toNat 8 8)) := by
        show _ = _
        rw [Math.take_snoc s k hlt, bitsL_snoc, sgn_append, Math.highP_all]
      have hb := s[k].toNat_lt
      generalize sgn (bitsL (s.data.toList.take k)) = G at *
      go_wp2
      go_loopw [3, 5] (fun v i wr => ∃ j : Nat, j ≤ 8 ∧ i = .int .i64 (7 - (j : Int)) ∧ wr.ownsRow w.heap.size 5 1 v (8 * k + j) (Pk.bcells (G ++ sgn (Math.highP s[k].toNat 8 j))) ∧ Hid (Below w.heap.size w wr)) (fun _ i _ => (intOf i + 1).toNat)
      case atStart =>
        refine ⟨0, by omega, by simp, ?_, L⟩
        have e0 : G ++ sgn (Math.highP s[k].toNat 8 0) = G := by simp [Math.highP, sgn]
        rw [e0]
        exact O
      case round =>
        clear O L
        obtain ⟨j, hj, rfl, O, L⟩ := hrel
        by_cases hj8 : j < 8
        · have e1 : 7 - (j : Int) = ((7 - j : Nat) : Int) := by omega
          have HS : Hid (Math.highP s[k].toNat 8 (j + 1) = Math.highP s[k].toNat 8 j ++ [s[k].toNat / 2 ^ (7 - j) % 2]) := Math.highP_succ _ _ _
          have HQ : Hid ((7 - j : Nat) + j = 7) := by show _ = _; omega
          have hzb : s[k].toNat / 2 ^ (7 - j) ≤ s[k].toNat := Nat.div_le_self _ _
          have hand := and_one_u8 (s[k].toNat / 2 ^ (7 - j)) (by omega)
          have hcast : (s[k].toNat : Int) / 2 ^ (7 - j) = ((s[k].toNat / 2 ^ (7 - j) : Nat) : Int) := by simp
          have hb1 : s[k].toNat / 2 ^ (7 - j) % 2 ≤ 1 := by omega
          have HO : Hid (∀ b, b ≤ 1 → _) := fun b hb => bcells_snoc1 (G ++ sgn (Math.highP s[k].toNat 8 j)) b hb
          have hq7 : (7 - j : Nat) ≤ 7 := by omega
          rw [e1]
          clear e1
          generalize s[k].toNat / 2 ^ (7 - j) = z at *
          generalize z % 2 = b at *
          generalize 7 - j = q at *
          have hBr : w.heap.size ≤ wr.heap.size := L.out.size
          go_wp2_with (at_builtin; refine wpList_append_own _ rfl _ _ 50 rfl w.heap.size 5 i0 (.int .u8 0) 1 1 Try.underlying50 hi hz0 hz1 hz2 rfl (by decide) _ _ _ rfl (O.alloc _) ⟨wr.heap.size, 0, none⟩ 1 1 [.int .u8 (48 + (b : Int))] rfl rfl ?c1 ?c2 ?c3 ?c4 ?c5 ?_)
          case c1 => exact cell_one_new _ _ _
          case c2 => intro u hu; simp at hu; subst hu; rfl
          case c3 => unfold maxLen; omega
          case c4 => omega
          case c5 => simp; omega
          intro v' w5 own5 grow5 _
          have L5 : Below w.heap.size w w5 := (L.out.alloc hBr _).grown grow5 (by simp; omega) (fun m h => Pk.own_ge O m h)
          rw [HO.out b hb1, List.append_assoc, ← sgn_snoc, ← HS.out] at own5
          clear grow5
          go_wp2
          go_roundw
          case rel => exact ⟨j + 1, by omega, by have := HQ.out; go_num, own5, L5⟩
          case measure => simp [intOf] <;> omega
        · obtain rfl : j = 8 := by omega
          rw [← HN.out] at O
          have e9 : 8 * k + 8 = 8 * (k + 1) := by omega
          rw [e9] at O
          clear e9
          go_wp2
          go_roundw
          case rel => exact ⟨k + 1, by omega, by go_num, O, L⟩
          case measure => simp [intOf] <;> omega
    · obtain rfl : k = s.size := by omega
      rw [Math.take_all s] at O
      have hcv := Pk.conv_own O
      have LL := L.out
      go_wp2
      go_ret
      exact ⟨rfl, LL⟩

end Sq
end Go.Proofs.Ytkhibgicejcmlam

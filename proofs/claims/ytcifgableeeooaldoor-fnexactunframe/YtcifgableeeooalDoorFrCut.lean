/- Contracts of four digits, of the program and of its model. -/
import Derived.Test.YtcifgableeeooalDoorFrMath
import Derived.Test.YtcifgableeeooalDoorPkCode
import Derived.Test.YtcifgableeeooalDoorNum
namespace Go.Proofs.YtcifgableeeooalDoor
namespace Fr
open Go.ChangeShapes Go.WideShapes Go.ChangeAt Go.RowKit
set_option linter.unusedSimpArgs false
set_option linter.unusedVariables false

theorem pow_10 (k n : Nat) (hk : k ≤ 4) (h : n < 10 ^ k) : n < 10000 := Nat.lt_of_lt_of_le h (Nat.pow_le_pow_right (by omega) hk)

set_option maxHeartbeats 1000000 in
theorem implCut_val (r : ByteArray) (w : World) :
    Calls Tryd.prog 19 #[.string r] w fun e w' => e = .returned (.tuple #[.int .i64 (cutN r : Nat), .string (cutR r), .bool (cutB r)]) ∧ Num.Drawn w w' := by
  by_cases h4 : 4 ≤ r.size
  · have h4I : ¬ (r.size : Int) < 4 := by omega
    have h4J : (4 : Int) ≤ (r.size : Int) := by omega
    obtain ⟨N, hN⟩ : ∃ N, cutN r = N := ⟨_, rfl⟩
    obtain ⟨R, hR⟩ : ∃ R, cutR r = R := ⟨_, rfl⟩
    obtain ⟨B, hB⟩ : ∃ B, cutB r = B := ⟨_, rfl⟩
    rw [hN, hR, hB]
    have HN : Hid (cutN r = N) := hN
    have HR : Hid (cutR r = R) := hR
    have HBB : Hid (cutB r = B) := hB
    clear hN hR hB
    go_enter Tryd.func19, Tryd.ntmps19
    go_wp2
    go_loopw [5, 10] (fun n i wr => ∃ k m : Nat, k ≤ 4 ∧ i = .int .i64 k ∧ n = .int .i64 m ∧ Hid (dg r k = some m) ∧ m < 10000 ∧ Num.Drawn w wr) (fun _ i _ => 4 - (intOf i).toNat)
    case atStart => exact ⟨0, 0, by omega, rfl, rfl, rfl, by omega, Num.Drawn.refl _⟩
    case round =>
      obtain ⟨k, m, hk, rfl, rfl, HD, hm, DR⟩ := hrel
      by_cases hkn : k < 4
      · have hks : k < r.size := by omega
        have hb := r[k].toNat_lt
        have HA : Hid (_) := dg_at r k m hks HD.out
        have HP := dg_lt r (k + 1)
        by_cases hlo : 48 ≤ r[k].toNat
        · by_cases hhi : r[k].toNat ≤ 57
          · have e : dg r (k + 1) = some (10 * m + (r[k].toNat - 48)) := by rw [HA.out, if_pos ⟨hlo, hhi⟩]
            have hq := pow_10 (k + 1) _ (by omega) (HP _ e)
            have HE : Hid (_) := e
            have d1 : ¬ (r[k].toNat : Int) < 48 := by omega
            have d2 : ¬ (57 : Int) < (r[k].toNat : Int) := by omega
            have d3 : IntKind.u8.wrap ((r[k].toNat : Int) - 48) = ((r[k].toNat - 48 : Nat) : Int) := by rw [IntKind.wrap_u8]; omega
            have d4 : IntKind.i64.wrap ((r[k].toNat - 48 : Nat) : Int) = ((r[k].toNat - 48 : Nat) : Int) := by rw [IntKind.wrap_i64]; omega
            clear HP e
            obtain ⟨q, hq2⟩ : ∃ q, r[k].toNat - 48 = q := ⟨_, rfl⟩
            rw [hq2] at d3 d4 hq HE
            clear HA
            go_wp2
            go_roundw
            case rel => exact ⟨k + 1, 10 * m + q, by omega, by go_num, by go_num, HE, hq, DR⟩
            case measure => simp [intOf]; omega
          · have e : dg r (k + 1) = none := by rw [HA.out, if_neg (by omega)]
            obtain ⟨e1, e2, e3⟩ := cut_no (r := r) (Or.inr (dg_none r (k + 1) 4 e (by omega)))
            have d1 : ¬ (r[k].toNat : Int) < 48 := by omega
            have d2 : (57 : Int) < (r[k].toNat : Int) := by omega
            clear HP e HA HD
            have HQ : Hid (N = 0 ∧ R = ⟨#[]⟩ ∧ B = false) := ⟨by rw [← HN.out, e2], by rw [← HR.out, e3], by rw [← HBB.out, e1]⟩
            clear e1 e2 e3
            go_wp2
            go_ret3
            exact ⟨by rw [HQ.out.1, HQ.out.2.1, HQ.out.2.2]; rfl, DR⟩
        · have e : dg r (k + 1) = none := by rw [HA.out, if_neg (by omega)]
          obtain ⟨e1, e2, e3⟩ := cut_no (r := r) (Or.inr (dg_none r (k + 1) 4 e (by omega)))
          have d1 : (r[k].toNat : Int) < 48 := by omega
          clear HP e HA HD
          have HQ : Hid (N = 0 ∧ R = ⟨#[]⟩ ∧ B = false) := ⟨by rw [← HN.out, e2], by rw [← HR.out, e3], by rw [← HBB.out, e1]⟩
          clear e1 e2 e3
          go_wp2
          go_ret3
          exact ⟨by rw [HQ.out.1, HQ.out.2.1, HQ.out.2.2]; rfl, DR⟩
      · obtain rfl : k = 4 := by omega
        obtain ⟨e1, e2, e3⟩ := cut_yes h4 HD.out
        have HQ : Hid (N = m ∧ R = r.extract 4 r.size ∧ B = true) := ⟨by rw [← HN.out, e2], by rw [← HR.out, e3], by rw [← HBB.out, e1]⟩
        clear HD e1 e2 e3
        go_wp2
        go_quiet (fail)
        go_wp2
        go_ret3
        exact ⟨by rw [HQ.out.1, HQ.out.2.1, HQ.out.2.2]; rfl, DR.more _⟩
  · have h4I : (r.size : Int) < 4 := by omega
    obtain ⟨e1, e2, e3⟩ := cut_no (r := r) (Or.inl h4)
    rw [e1, e2, e3]
    go_enter Tryd.func19, Tryd.ntmps19
    go_wp2
    go_ret3
    exact ⟨rfl, Num.Drawn.refl _⟩

set_option maxHeartbeats 1000000 in
theorem specDig_val (t : ByteArray) (w : World) (h4 : t.size = 4) :
    Calls Tryd.prog 7 #[.string t] w fun e w' => e = .returned (.int .i64 (digI t)) ∧ w' = w := by
  obtain ⟨X, hX⟩ : ∃ X, digI t = X := ⟨_, rfl⟩
  rw [hX]
  have HX : Hid (digI t = X) := hX
  clear hX
  go_enter Tryd.func7, Tryd.ntmps7
  go_wp2
  go_loop [3, 4] (fun n i => ∃ k m : Nat, k ≤ 4 ∧ i = .int .i64 k ∧ n = .int .i64 m ∧ Hid (dg t k = some m) ∧ m < 10000) (fun _ i => 4 - (intOf i).toNat)
  case atStart => exact ⟨0, 0, by omega, rfl, rfl, rfl, by omega⟩
  case round =>
    obtain ⟨k, m, hk, rfl, rfl, HD, hm⟩ := hrel
    by_cases hkn : k < 4
    · have hks : k < t.size := by omega
      have hb := t[k].toNat_lt
      have HA : Hid (_) := dg_at t k m hks HD.out
      have HP := dg_lt t (k + 1)
      by_cases hin : 48 ≤ t[k].toNat ∧ t[k].toNat ≤ 57
      · have e : dg t (k + 1) = some (10 * m + (t[k].toNat - 48)) := by rw [HA.out, if_pos hin]
        have hq := pow_10 (k + 1) _ (by omega) (HP _ e)
        have HE : Hid (_) := e
        have HI : Hid (∀ W : World, _) := fun W => Pk.in_is (t[k].toNat : Int) 48 57 true (decide_eq_true (by omega)) W
        have HQ : Hid (((10 * m + (t[k].toNat - 48) : Nat) : Int) = 10 * (m : Int) + (t[k].toNat : Int) - 48) := by show _ = _; omega
        clear HP e HA
        go_wp2_with fail
        refine (HI.out _).mono ?_
        rintro e w1 ⟨rfl, rfl⟩
        go_wp2
        go_round
        case rel => exact ⟨k + 1, 10 * m + (t[k].toNat - 48), by omega, by go_num, by rw [HQ.out], HE, hq⟩
        case measure => simp [intOf]; omega
      · have e : dg t (k + 1) = none := by rw [HA.out, if_neg hin]
        have e1 := digI_none (dg_none t (k + 1) 4 e (by omega))
        have HI : Hid (∀ W : World, _) := fun W => Pk.in_is (t[k].toNat : Int) 48 57 false (decide_eq_false (by omega)) W
        have HQ : Hid (X = -1) := by show X = -1; rw [← HX.out, e1]
        clear HP e HA HD e1
        go_wp2_with fail
        refine (HI.out _).mono ?_
        rintro e w1 ⟨rfl, rfl⟩
        go_wp2
        go_ret
        exact ⟨by rw [HQ.out]; rfl, rfl⟩
    · obtain rfl : k = 4 := by omega
      have HQ : Hid (X = (m : Int)) := by show X = _; rw [← HX.out, digI_some HD.out]
      clear HD
      go_wp2
      go_ret
      exact ⟨by rw [HQ.out]; rfl, rfl⟩

end Fr
end Go.Proofs.YtcifgableeeooalDoor

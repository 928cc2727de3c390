/- Contracts of the model's lengths and ways back, off their codes. -/
import Derived.Test.YtcifgableeeooalDoorUnSym
namespace Go.Proofs.YtcifgableeeooalDoor
namespace Pk
open Go.ChangeShapes Go.WideShapes Go.ChangeAt Go.RowKit
set_option linter.unusedSimpArgs false
set_option linter.unusedVariables false

abbrev ii2 (a b : Int) : Value := .tuple #[.int .i64 a, .int .i64 b]

set_option maxRecDepth 100000 in
theorem len_hit : ∀ n, n < 255 → Math.codeX 2 n = 0 → Math.cleast 4 (Math.codeC 2 n) = n ∧ Math.cbits 4 (Math.codeC 2 n) = Math.nbits 2 n := by decide +kernel

set_option maxRecDepth 100000 in
theorem len_there : ∀ k, k < 28 → Math.cleast 4 k < 255 ∧ Math.codeC 2 (Math.cleast 4 k) = k ∧ Math.codeX 2 (Math.cleast 4 k) = 0 ∧ Math.cbits 4 k ≤ 5 := by decide +kernel

theorem backBits_val (k : Nat) (w : World) (hk : k ≤ 40) :
    Calls Tryd.prog 32 #[.int .i64 k] w fun e w' => e = .returned (.int .i64 (Math.cbits 2 k)) ∧ w' = w := by
  have HC : Hid (Math.cbits 2 k = k / 2 - 1) := rfl
  generalize Math.cbits 2 k = C at *
  by_cases h : k < 4
  · obtain rfl : C = 0 := by have := HC.out; omega
    clear HC
    go_enter Tryd.func32, Tryd.ntmps32
    go_wp2
    go_ret
    exact ⟨rfl, rfl⟩
  · have h1 : ((k : Int) - 2) / 2 = C := by have := HC.out; omega
    have h2 : Int.tdiv ((k : Int) - 2) 2 = C := by rw [Int.tdiv_eq_ediv_of_nonneg (by omega)]; exact h1
    have hC : C ≤ 40 := by have := HC.out; omega
    clear HC
    go_enter Tryd.func32, Tryd.ntmps32
    go_wp2
    go_ret
    exact ⟨by go_num, rfl⟩

set_option maxHeartbeats 1000000 in
theorem backOf_val (k : Nat) (w : World) (hk : k ≤ 29) :
    Calls Tryd.prog 26 #[.int .i64 k] w fun e w' => e = .returned (ii2 ((Math.cleast 2 k : Nat) + 1) (Math.cbits 2 k : Nat)) ∧ w' = w := by
  go_enter Tryd.func26, Tryd.ntmps26
  go_wp2
  go_loopw [4, 5] (fun x i wr => ∃ (j y : Nat), j ≤ k ∧ y < 1099511627776 ∧ x = .int .i64 ((y : Int) + 1) ∧ i = .int .i64 j ∧ Hid (y = Math.cleast 2 j) ∧ wr = w) (fun _ i _ => k - (intOf i).toNat)
  case atStart => exact ⟨0, 0, by omega, by omega, by go_num, rfl, rfl, rfl⟩
  case round =>
    obtain ⟨j, y, hj, hy, rfl, rfl, HY, rfl⟩ := hrel
    by_cases hjk : j < k
    · have HN : Hid (Math.cleast 2 (j + 1) = y + p2 (Math.cbits 2 j)) := by show _ = _; rw [HY.out]; exact Math.cleast_succ 2 j (by omega)
      have hc : Math.cbits 2 j ≤ 15 := by unfold Math.cbits; omega
      have HB : Hid (_) := backBits_val j wr (by omega)
      have HP : Hid (_) := pow2_val (Math.cbits 2 j) wr (by omega)
      have hlt : y + p2 (Math.cbits 2 j) < 1099511627776 := by
        rw [← HN.out]
        have h9 : ∀ q, q < 31 → Math.cleast 2 q < 1099511627776 := by decide +kernel
        exact h9 _ (by omega)
      generalize p2 (Math.cbits 2 j) = Q at *
      generalize Math.cbits 2 j = C at *
      go_wp2_with fail
      refine (Calls.mono HB.out ?_)
      rintro e w2 ⟨rfl, rfl⟩
      go_wp2_with fail
      refine (Calls.mono HP.out ?_)
      rintro e w2 ⟨rfl, rfl⟩
      go_wp2
      go_roundw
      case rel => exact ⟨j + 1, y + Q, by omega, by omega, by go_num, by go_num, HN.out.symm, by first | rfl | trivial⟩
      case measure => simp [intOf]; omega
    · obtain rfl : j = k := by omega
      have HB : Hid (_) := backBits_val j wr (by omega)
      have HE : Hid (∃ C, Math.cbits 2 j = C ∧ C ≤ 40) := ⟨_, rfl, by unfold Math.cbits; omega⟩
      obtain ⟨C, hC, hC4⟩ := HE.out
      rw [hC] at HB
      have HD : Hid (_) := hC
      clear hC HE
      go_wp2_with fail
      refine (Calls.mono HB.out ?_)
      rintro e w2 ⟨rfl, rfl⟩
      go_wp2
      go_ret2
      exact ⟨by rw [← HY.out, HD.out] <;> rfl, rfl⟩

set_option maxHeartbeats 1000000 in
theorem lenOf_last (w : World) :
    Calls Tryd.prog 24 #[.int .i64 285] w fun e w' => e = .returned (ii2 258 0) ∧ w' = w := by
  go_enter Tryd.func24, Tryd.ntmps24
  go_wp2
  go_ret2
  exact ⟨rfl, rfl⟩

set_option maxRecDepth 100000 in
set_option maxHeartbeats 1000000 in
theorem lenOf_val (k : Nat) (w : World) (hk : k < 28) :
    Calls Tryd.prog 24 #[.int .i64 ((k : Int) + 257)] w fun e w' => e = .returned (ii2 ((Math.cleast 4 k : Nat) + 3) (Math.cbits 4 k : Nat)) ∧ w' = w := by
  have hne : ((k : Int) + 257 == 285) = false := by rw [beq_eq_false_iff_ne]; omega
  obtain ⟨hl, HC, HX, hb⟩ := len_there k hk
  have HCC : Hid (Math.codeC 2 (Math.cleast 4 k) = k ∧ Math.codeX 2 (Math.cleast 4 k) = 0) := ⟨HC, HX⟩
  clear HC HX
  go_enter Tryd.func24, Tryd.ntmps24
  go_wp2
  go_loopw [4] (fun i wr => ∃ (j : Nat), j ≤ Math.cleast 4 k ∧ i = .int .i64 ((j : Int) + 3) ∧ wr = w) (fun i _ => 300 - (intOf i).toNat)
  case atStart => exact ⟨0, by omega, by go_num, rfl⟩
  case round =>
    obtain ⟨j, hj, rfl, rfl⟩ := hrel
    have HV : Hid (_) := specLen_val ((j : Int) + 3) wr
    obtain ⟨q1, q2, q3⟩ := len_yes j (by omega)
    rw [q1, q2, q3, Int.add_comm 257] at HV
    clear q1 q2 q3
    have hj5 : (j : Int) + 3 < 258 := by omega
    have HH : Hid (_) := len_hit j (by omega)
    have hnb : Math.nbits 2 j ≤ 100 := by unfold Math.nbits; have := blen_bd j 8 (by omega); omega
    by_cases hx : Math.codeC 2 j = k ∧ Math.codeX 2 j = 0
    · obtain ⟨h1, h2⟩ := hx
      have h3 := HH.out h2
      rw [h1] at h3
      rw [h1, h2] at HV
      have HD : Hid (_) := h3
      clear h3 HH HCC hj hl hb h1 h2
      generalize Math.nbits 2 j = nb at *
      go_wp2_with fail
      refine (Calls.mono HV.out ?_)
      rintro e w2 ⟨rfl, rfl⟩
      go_wp2
      go_ret2
      exact ⟨by rw [HD.out.1, HD.out.2] <;> rfl, rfl⟩
    · have hjk : j < Math.cleast 4 k := by
        apply Classical.byContradiction
        intro hn
        have : j = Math.cleast 4 k := by omega
        subst this
        exact hx HCC.out
      clear HH
      generalize Math.nbits 2 j = nb at *
      generalize Math.codeC 2 j = C at *
      generalize Math.codeX 2 j = X at *
      generalize Math.cleast 4 k = T at *
      by_cases h1 : C = k
      · have h2 : ¬ ((X : Int) = 0) := by omega
        have h2' : ((X : Int) == 0) = false := by simpa using h2
        subst h1
        clear HCC
        go_wp2_with fail
        refine (Calls.mono HV.out ?_)
        rintro e w2 ⟨rfl, rfl⟩
        go_wp2
        go_roundw
        case rel => exact ⟨j + 1, by omega, by go_num, by first | rfl | trivial⟩
        case measure => simp [intOf]; omega
      · have h2 : ¬ (257 + (C : Int) = (k : Int) + 257) := by omega
        have h2' : ((C : Int) + 257 == (k : Int) + 257) = false := by rw [beq_eq_false_iff_ne]; omega
        have h3' : ((C : Int) == (k : Int)) = false := by rw [beq_eq_false_iff_ne]; omega
        have h4' : ¬ ((C : Int) = (k : Int)) := by omega
        have h5' : ¬ ((C : Int) + 257 = (k : Int) + 257) := by omega
        clear HCC
        go_wp2_with fail
        refine (Calls.mono HV.out ?_)
        rintro e w2 ⟨rfl, rfl⟩
        go_wp2
        go_roundw
        case rel => exact ⟨j + 1, by omega, by go_num, by first | rfl | trivial⟩
        case measure => simp [intOf]; omega

end Pk
end Go.Proofs.YtcifgableeeooalDoor

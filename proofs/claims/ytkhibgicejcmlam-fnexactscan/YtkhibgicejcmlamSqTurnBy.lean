/- Contracts of TurnBy, of the program and of its model. -/
import Derived.Test.YtkhibgicejcmlamSqTurnS
import Derived.Test.YtkhibgicejcmlamNum
namespace Go.Proofs.Ytkhibgicejcmlam
namespace Sq
open Go.ChangeShapes Go.WideShapes Go.ChangeAt Go.RowKit
set_option linter.unusedSimpArgs false
set_option linter.unusedVariables false

/-- A square's signs behind k quarters. -/
def turnN (n : Int) (s : ByteArray) : Nat → ByteArray
  | 0 => s
  | k + 1 => turnV n (turnN n s k)

theorem turnV_size (n : Int) (s : ByteArray) : (turnV n s).size = s.size := by
  cases hok : okQ n s
  · rw [turnV_no hok]
  · obtain ⟨h, h4, h1, rfl, hz, hg⟩ := ok_form hok
    rw [turnV_ok hok, turnS, strT_size, hz]

theorem turnN_size (n : Int) (s : ByteArray) (k : Nat) : (turnN n s k).size = s.size := by
  induction k with
  | zero => rfl
  | succ k ih => rw [turnN, turnV_size, ih]

theorem Box.put {W : World} {b : Nat} {n : Int} {s : ByteArray} (h : Box W b n s) (n' : Int) (s' : ByteArray) : Box ((W.setCell ⟨b, 0, none⟩ (.int .i64 n')).setCell ⟨b, 1, none⟩ (.string s')) b n' s' := by
  unfold Box at *
  unfold World.setCell
  simp [Array.getElem?_modify, h]

theorem Box.far {W : World} {b c : Nat} {n : Int} {s : ByteArray} (h : Box W b n s) (hc : b ≠ c) (u v : Value) : Box ((W.setCell ⟨c, 0, none⟩ u).setCell ⟨c, 1, none⟩ v) b n s := by
  unfold Box at *
  rw [Below.heap_setCell _ _ _ _ hc, Below.heap_setCell _ _ _ _ hc]
  exact h

theorem rest4 (n : Int) : (Int.tmod n 4 < 0 → Int.tmod n 4 + 4 = ((n % 4).toNat : Int)) ∧ (¬ Int.tmod n 4 < 0 → Int.tmod n 4 = ((n % 4).toNat : Int)) ∧ -3 ≤ Int.tmod n 4 ∧ Int.tmod n 4 ≤ 3 := by
  rcases Int.le_total 0 n with h | h
  · rw [Int.tmod_eq_emod_of_nonneg h]
    omega
  · obtain ⟨m, rfl⟩ : ∃ m, n = -m := ⟨-n, by omega⟩
    rw [Int.neg_tmod, Int.tmod_eq_emod_of_nonneg (by omega)]
    omega

set_option maxRecDepth 100000 in
theorem specTurnBy_val (n : Int) (s : ByteArray) (m : Int) (w : World) (hm : (Lit.int .i64 m).wf = true) (hs : s.size ≤ 1048576) :
    Calls Try.prog 14 #[sqV n s, .int .i64 m] w fun e w' => e = .returned (sqV n (turnN n s (m % 4).toNat)) ∧ Below w.heap.size w w' := by
  have HT : Hid (∀ k w, _) := fun k w => specTurn_val n (turnN n s k) w (by rw [turnN_size]; exact hs)
  obtain ⟨r1, r2, r3, r4⟩ := rest4 m
  have hr : (m % 4).toNat ≤ 3 := by omega
  generalize hr0 : (m % 4).toNat = r at *
  generalize ht : Int.tmod m 4 = t at *
  unfold sqV at *
  obtain ⟨m0, m1, N⟩ := box2 w n s
  clear hs hr0
  by_cases htn : t < 0
  · have hrr := r1 htn
    clear r1 r2
    go_enter Try.func14, Try.ntmps14
    go_wp2
    generalize (w.alloc (.cells #[.int .i64 n, .string s] 25)).alloc (.cells #[.int .i64 0, .string ⟨#[]⟩] 25) = W at *
    go_loopw [6] (fun i wr => ∃ k : Nat, k ≤ r ∧ i = .int .i64 k ∧ Box wr w.heap.size n (turnN n s k) ∧ Box wr (w.heap.size + 1) 0 ⟨#[]⟩ ∧ Hid (Below w.heap.size w wr)) (fun i _ => r - (intOf i).toNat)
    case atStart => exact ⟨0, by omega, rfl, m0, m1, N⟩
    case round =>
      obtain ⟨k, hk, rfl, m2, m3, N2⟩ := hrel
      by_cases hlt : k < r
      · have HK : Hid (∀ w, _) := fun w => HT.out k w
        have HE : Hid (turnN n s (k + 1) = turnV n (turnN n s k)) := rfl
        generalize turnV n (turnN n s k) = q1 at *
        generalize turnN n s k = q0 at *
        have c0 := m2.n
        have c1 := m2.s
        go_wp2_with fail
        refine (HK.out _).mono ?_
        rintro e w3 ⟨rfl, L3⟩
        have m4 := m2.on L3
        have m5 := m3.on L3
        have N3 := Pk.join_below N2.out L3
        have d0 := m4.n
        have d1 := m4.s
        have f0 := m4.f 0
        have f1 := m4.f 1
        go_wp2
        go_roundw
        case rel => exact ⟨k + 1, by omega, by go_num, by rw [HE.out]; exact m4.put n q1, m5.far (by omega) _ _, (N3.setCell (Nat.le_refl _) _).setCell (Nat.le_refl _) _⟩
        case measure => simp [intOf]; omega
      · obtain rfl : k = r := by omega
        have c0 := m2.n
        have c1 := m2.s
        have d0 := m3.n
        have d1 := m3.s
        have f0 := m3.f 0
        have f1 := m3.f 1
        have N3 := N2.out
        go_wp2
        refine bodyPost_ret (v := .agg #[.int .i64 n, .string (turnN n s k)]) (by simp [results, Try.results14, go_sem, d0, d1]) rfl ?_
        exact ⟨rfl, (N3.setCell (Nat.le_succ _) _).setCell (Nat.le_succ _) _⟩
  · have hrr := r2 htn
    clear r1 r2
    go_enter Try.func14, Try.ntmps14
    go_wp2
    generalize (w.alloc (.cells #[.int .i64 n, .string s] 25)).alloc (.cells #[.int .i64 0, .string ⟨#[]⟩] 25) = W at *
    go_loopw [6] (fun i wr => ∃ k : Nat, k ≤ r ∧ i = .int .i64 k ∧ Box wr w.heap.size n (turnN n s k) ∧ Box wr (w.heap.size + 1) 0 ⟨#[]⟩ ∧ Hid (Below w.heap.size w wr)) (fun i _ => r - (intOf i).toNat)
    case atStart => exact ⟨0, by omega, rfl, m0, m1, N⟩
    case round =>
      obtain ⟨k, hk, rfl, m2, m3, N2⟩ := hrel
      by_cases hlt : k < r
      · have HK : Hid (∀ w, _) := fun w => HT.out k w
        have HE : Hid (turnN n s (k + 1) = turnV n (turnN n s k)) := rfl
        generalize turnV n (turnN n s k) = q1 at *
        generalize turnN n s k = q0 at *
        have c0 := m2.n
        have c1 := m2.s
        go_wp2_with fail
        refine (HK.out _).mono ?_
        rintro e w3 ⟨rfl, L3⟩
        have m4 := m2.on L3
        have m5 := m3.on L3
        have N3 := Pk.join_below N2.out L3
        have d0 := m4.n
        have d1 := m4.s
        have f0 := m4.f 0
        have f1 := m4.f 1
        go_wp2
        go_roundw
        case rel => exact ⟨k + 1, by omega, by go_num, by rw [HE.out]; exact m4.put n q1, m5.far (by omega) _ _, (N3.setCell (Nat.le_refl _) _).setCell (Nat.le_refl _) _⟩
        case measure => simp [intOf]; omega
      · obtain rfl : k = r := by omega
        have c0 := m2.n
        have c1 := m2.s
        have d0 := m3.n
        have d1 := m3.s
        have f0 := m3.f 0
        have f1 := m3.f 1
        have N3 := N2.out
        go_wp2
        refine bodyPost_ret (v := .agg #[.int .i64 n, .string (turnN n s k)]) (by simp [results, Try.results14, go_sem, d0, d1]) rfl ?_
        exact ⟨rfl, (N3.setCell (Nat.le_succ _) _).setCell (Nat.le_succ _) _⟩

set_option maxRecDepth 100000 in
theorem implTurnBy_val (n : Int) (s : ByteArray) (m : Int) (w : World) (hm : (Lit.int .i64 m).wf = true) (hs : s.size ≤ 1048576) :
    Calls Try.prog 15 #[sqV n s, .int .i64 m] w fun e w' => e = .returned (sqV n (turnN n s (m % 4).toNat)) ∧ Below w.heap.size w w' := by
  have HT : Hid (∀ k w, _) := fun k w => implTurn_val n (turnN n s k) w (by rw [turnN_size]; exact hs)
  have HM : Hid (∀ w, _) := fun w => Num.implMod_yes m 4 w (by omega) (by omega)
  have HC : Hid (∀ w, _) := fun w => copied_val n s w (by omega)
  have hr : (m % 4).toNat ≤ 3 := by omega
  have e4 : m % 4 = (((m % 4).toNat : Nat) : Int) := by omega
  generalize (m % 4).toNat = r at *
  rw [e4] at HM
  unfold sqV at *
  obtain ⟨m0, m1, N⟩ := box2 w n s
  clear hs e4
  go_enter Try.func15, Try.ntmps15
  go_wp2_with fail
  generalize (w.alloc (.cells #[.int .i64 n, .string s] 25)).alloc (.cells #[.int .i64 0, .string ⟨#[]⟩] 25) = W at *
  refine (HC.out _).mono ?_
  rintro e w1 ⟨rfl, L1⟩
  replace m0 := m0.on L1
  replace m1 := m1.on L1
  replace N := Pk.join_below N L1
  have d0 := m0.n
  have d1 := m0.s
  have f0 := m0.f 0
  have f1 := m0.f 1
  replace m0 := m0.put n s
  replace m1 := m1.far (show w.heap.size + 1 ≠ w.heap.size by omega) (.int .i64 n) (.string s)
  replace N := (N.setCell (p := ⟨w.heap.size, 0, none⟩) (Nat.le_refl _) (.int .i64 n)).setCell (p := ⟨w.heap.size, 1, none⟩) (Nat.le_refl _) (.string s)
  go_wp2_with fail
  generalize (w1.setCell ⟨w.heap.size, 0, none⟩ (.int .i64 n)).setCell ⟨w.heap.size, 1, none⟩ (.string s) = w2 at *
  refine (HM.out _).mono ?_
  rintro e w3 ⟨rfl, rfl⟩
  clear d0 d1 f0 f1 L1
  go_wp2
  go_loopw [9] (fun i wr => ∃ k : Nat, k ≤ r ∧ i = .int .i64 k ∧ Box wr w.heap.size n (turnN n s k) ∧ Box wr (w.heap.size + 1) 0 ⟨#[]⟩ ∧ Hid (Below w.heap.size w wr)) (fun i _ => r - (intOf i).toNat)
  case atStart => exact ⟨0, by omega, rfl, m0, m1, N⟩
  case round =>
    obtain ⟨k, hk, rfl, m2, m3, N2⟩ := hrel
    by_cases hlt : k < r
    · have HK : Hid (∀ w, _) := fun w => HT.out k w
      have HE : Hid (turnN n s (k + 1) = turnV n (turnN n s k)) := rfl
      generalize turnV n (turnN n s k) = q1 at *
      generalize turnN n s k = q0 at *
      have c0 := m2.n
      have c1 := m2.s
      go_wp2_with fail
      refine (HK.out _).mono ?_
      rintro e w3 ⟨rfl, L3⟩
      have m4 := m2.on L3
      have m5 := m3.on L3
      have N3 := Pk.join_below N2.out L3
      have d0 := m4.n
      have d1 := m4.s
      have f0 := m4.f 0
      have f1 := m4.f 1
      go_wp2
      go_roundw
      case rel => exact ⟨k + 1, by omega, by go_num, by rw [HE.out]; exact m4.put n q1, m5.far (by omega) _ _, (N3.setCell (Nat.le_refl _) _).setCell (Nat.le_refl _) _⟩
      case measure => simp [intOf]; omega
    · obtain rfl : k = r := by omega
      have c0 := m2.n
      have c1 := m2.s
      have d0 := m3.n
      have d1 := m3.s
      have f0 := m3.f 0
      have f1 := m3.f 1
      have N3 := N2.out
      go_wp2
      refine bodyPost_ret (v := .agg #[.int .i64 n, .string (turnN n s k)]) (by simp [results, Try.results15, go_sem, d0, d1]) rfl ?_
      exact ⟨rfl, (N3.setCell (Nat.le_succ _) _).setCell (Nat.le_succ _) _⟩

end Sq
end Go.Proofs.Ytkhibgicejcmlam

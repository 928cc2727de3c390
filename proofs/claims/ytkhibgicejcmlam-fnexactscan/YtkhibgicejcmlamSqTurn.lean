/- Contracts of Turn, of the program and of its model. -/
import Derived.Test.YtkhibgicejcmlamSqRun
namespace Go.Proofs.Ytkhibgicejcmlam
namespace Sq
open Go.ChangeShapes Go.WideShapes Go.ChangeAt Go.RowKit
set_option linter.unusedSimpArgs false
set_option linter.unusedVariables false

theorem tI_zero (h : Nat) (s : ByteArray) (j : Nat) : tI h s 0 j = .int .u8 0 := by
  unfold tI
  rw [if_neg (by omega)]

theorem info_u8 : (Try.prog.info? 5).map (fun i => (i.zero, i.size, i.bytes)) = some (some (.int .u8 0), 1, 1) := by kernel_rfl

set_option maxRecDepth 100000 in
theorem implTurn_ok (h : Nat) (s : ByteArray) (w : World) (hs : s.size ≤ maxLen) (h4 : 4 ≤ h) (h1 : h ≤ 30) (hok : okQ (2 * (h : Int) + 1) s = true) (hz : s.size = (2 * h + 1) * (2 * h + 1)) :
    Calls Try.prog 12 #[sqV (2 * (h : Int) + 1) s] w fun e w' => e = .returned (sqV (2 * (h : Int) + 1) (turnS h s)) ∧ Below w.heap.size w w' := by
  have HO : Hid (∀ w, _) := fun w => implOk_val (2 * (h : Int) + 1) s w hs
  rw [hok] at HO
  have hN : (2 * h + 1) * (2 * h + 1) ≤ 61 * 61 := Nat.mul_le_mul (by omega) (by omega)
  have hN1 : 9 * 9 ≤ (2 * h + 1) * (2 * h + 1) := Nat.mul_le_mul (by omega) (by omega)
  have HW : Hid (∀ w, _) := fun w => wayOf_val s.size w (by omega) (by omega)
  have hmk := make_run 50 5 _ 1 s.size Try.underlying50 info_u8 rfl (by omega) (by omega)
  have HP1 : Hid (∀ (k : Nat) (w : World), k < s.size → _) := fun k w hk => toRight_val (wx k) (wy k) w (by have := way_bd k (by omega); omega) (by have := way_bd k (by omega); omega) (by have := way_bd k (by omega); omega) (by have := way_bd k (by omega); omega)
  have HP2 : Hid (∀ (k : Nat) (w : World), k < s.size → _) := fun k w hk => index_val h s (E (wx k)) (E (wy k)) (wx k) (wy k) w (E_int (by have := way_bd k (by omega); omega) (by have := way_bd k (by omega); omega)) (E_int (by have := way_bd k (by omega); omega) (by have := way_bd k (by omega); omega)) h1 (dist_in (way_dist k h (by omega))).1 (dist_in (way_dist k h (by omega))).2.1 (dist_in (way_dist k h (by omega))).2.2.1 (dist_in (way_dist k h (by omega))).2.2.2
  have HP3 : Hid (∀ (k : Nat) (w : World), k < s.size → _) := fun k w hk => index_val h s (sr (zs (wx k)) (wy k)) (E (wx k)) (-(wy k)) (wx k) w (right_bits (by have := way_bd k (by omega); omega) (by have := way_bd k (by omega); omega) (by have := way_bd k (by omega); omega) (by have := way_bd k (by omega); omega)).2 (E_int (by have := way_bd k (by omega); omega) (by have := way_bd k (by omega); omega)) h1 (by have := dist_in (way_dist k h (by omega)); omega) (by have := dist_in (way_dist k h (by omega)); omega) (dist_in (way_dist k h (by omega))).1 (dist_in (way_dist k h (by omega))).2.1
  have HI2 : Hid (∀ k, k < s.size → idx h (wx k) (wy k) < s.size) := fun k hk => by
    obtain ⟨a1, a2, a3, a4⟩ := dist_in (way_dist k h (by omega))
    rw [hz]; exact idx_lt a1 a2 a3 a4
  have HI3 : Hid (∀ k, k < s.size → idx h (-(wy k)) (wx k) < s.size) := fun k hk => by
    obtain ⟨a1, a2, a3, a4⟩ := dist_in (way_dist k h (by omega))
    rw [hz]; exact idx_lt (by omega) (by omega) a1 a2
  have HST : Hid (∀ k, k < s.size → ∀ j, j < s.size → tI h s (k + 1) j = if j = idx h (-(wy k)) (wx k) then .int .u8 ((tb s (idx h (wx k) (wy k))).toNat : Int) else tI h s k j) := fun k hk j hj => tI_step h s k (by omega) j (by omega)
  have HEN : Hid (∀ j, j < s.size → tI h s s.size j = .int .u8 ((turnF h s j).toNat : Int)) := fun j hj => by
    have := tI_end h s j (by omega)
    rw [← hz] at this
    exact this
  have HT : Hid (turnS h s = strT s.size (turnF h s)) := by show _ = _; unfold turnS; rw [hz]
  have hc1 : s.size ≤ 3721 := by omega
  have hc0 : 81 ≤ s.size := by omega
  clear hs hok hz hN hN1 h4 h1
  generalize turnS h s = T at *
  unfold sqV at *
  generalize 2 * (h : Int) + 1 = n at *
  obtain ⟨m0, m1, N⟩ := box2 w n s
  go_enter Try.func12, Try.ntmps12
  go_wp2_with fail
  generalize (w.alloc (.cells #[.int .i64 n, .string s] 25)).alloc (.cells #[.int .i64 0, .string ⟨#[]⟩] 25) = W at *
  refine (HO.out _).mono ?_
  rintro e w1 ⟨rfl, L1⟩
  replace m0 := m0.on L1
  replace m1 := m1.on L1
  replace N := Pk.join_below N L1
  have c1 := m0.s
  have K := Pk.new_below w1 (.cells (tab s.size (fun _ => .int .u8 0)) 5)
  have G := Pk.heap_new w1 (.cells (tab s.size (fun _ => .int .u8 0)) 5)
  have m2 := m0.on K
  have m3 := m1.on K
  have N2 := Pk.join_below N K
  have hb : w.heap.size + 1 < w1.heap.size := Pk.lt_of m1
  go_wp2_with fail
  generalize w1.alloc (.cells (tab s.size (fun _ => .int .u8 0)) 5) = w2 at *
  refine (HW.out _).mono ?_
  rintro e w3 ⟨rfl, m, L3⟩
  have hg2 : w1.heap.size < w2.heap.size := Pk.lt_of G
  replace m2 := m2.on L3
  replace m3 := m3.on L3
  have G3 := Pk.kept L3 (Pk.lt_of G) G
  have N3 := Pk.join_below N2 L3
  have R0 : Run w.heap.size w w3 w3 w1.heap.size s.size (tI h s 0) := Run.start N3 (Pk.lt_of G3) (by omega) ((Cl.of_tab G3).congr (fun j _ => tI_zero h s j))
  clear m0 m1 N c1 K N2 L1 L3 G G3
  generalize hg : w1.heap.size = g at *
  generalize hp : w2.heap.size = p at *
  have hpg : p ≠ g := by omega
  have hbg : w.heap.size ≠ g := by omega
  have hrg : w.heap.size + 1 ≠ g := by omega
  go_wp2
  go_loopw [19] (fun i wr => ∃ k : Nat, k ≤ s.size ∧ i = .int .i64 k ∧ Run w.heap.size w w3 wr g s.size (tI h s k)) (fun i _ => s.size - (intOf i).toNat)
  case atStart => exact ⟨0, by omega, rfl, R0⟩
  case round =>
    obtain ⟨k, hk, rfl, R⟩ := hrel
    by_cases hlt : k < s.size
    · have M : Box wr w.heap.size n s := R.keep m2 hbg
      have hcl := row_at (R.keep m hpg) k hlt
      unfold plV at hcl
      have J2 := HI2.out k hlt
      have J3 := HI3.out k hlt
      have X1 : Hid (∀ w, _) := fun w => HP1.out k w hlt
      have X2 : Hid (∀ w, _) := fun w => HP2.out k w hlt
      have X3 : Hid (∀ w, _) := fun w => HP3.out k w hlt
      have XS : Hid (_) := HST.out k hlt
      have X4 := getD_at s _ J2
      rw [show s.data.toList.getD (idx h (wx k) (wy k)) 0 = tb s (idx h (wx k) (wy k)) from rfl] at X4
      rw [X4] at XS
      clear X4
      generalize E (wx k) = a at *
      generalize E (wy k) = b at *
      generalize sr (zs (wx k)) (wy k) = d at *
      generalize idx h (wx k) (wy k) = i2 at *
      generalize idx h (-(wy k)) (wx k) = i3 at *
      have hk1 : (0 : Int) ≤ (i2 : Int) := by omega
      have hk2 : (i2 : Int) < (s.size : Int) := by omega
      have hk3 : (0 : Int) ≤ (i3 : Int) := by omega
      have hk4 : (i3 : Int) < (s.size : Int) := by omega
      have z1 : ¬ g = w.heap.size := fun h => hbg h.symm
      have z2 : ¬ w.heap.size = g := hbg
      have c0 := M.n
      have c1 := M.s
      have r0 := (R.row i3 J3).1
      have r1 := (R.row i3 J3).2
      go_wp2
      go_region_held3 (fun w' => w'.cell? ⟨w.heap.size, 0, none⟩ = some (.int .i64 n) ∧ w'.cell? ⟨w.heap.size, 1, none⟩ = some (.string s)) (go_keep) (first
        | (go_at_call 33; refine (X1.out _).mono ?_; rintro e x1 ⟨rfl, rfl⟩)
        | (go_at_call 32; (first | (with_reducible refine (X2.out _).mono ?_) | (with_reducible refine (X3.out _).mono ?_)); rintro e x2 ⟨rfl, L3⟩; replace R := (by first | exact R.on L3 | exact R.drew.on L3); have M : Box x2 w.heap.size n s := R.keep m2 hbg; have c0 := M.n; have c1 := M.s; have r0 := (R.row i3 J3).1; have r1 := (R.row i3 J3).2))
      all_goals
        go_wp2
        go_roundw
        case rel => exact ⟨k + 1, by omega, by go_num, by first | exact R.set i3 _ XS.out | exact R.drew.set i3 _ XS.out | exact (R.set i3 _ XS.out).drew⟩
        case measure => simp [intOf]; omega
    · obtain rfl : k = s.size := by omega
      have hcv := R.row.text (cap := s.size) HEN.out
      rw [← HT.out] at hcv
      have M : Box wr w.heap.size n s := R.keep m2 hbg
      have M' : Box wr (w.heap.size + 1) 0 ⟨#[]⟩ := R.keep m3 hrg
      have c0 := M.n
      have d0 := M'.n
      have d1 := M'.s
      have f0 := M'.f 0
      have f1 := M'.f 1
      have LL := R.below
      go_wp2
      refine bodyPost_ret (v := .agg #[.int .i64 n, .string T]) (by simp [results, Try.results12, go_sem, d0, d1]) rfl ?_
      exact ⟨rfl, (LL.setCell (Nat.le_succ _) _).setCell (Nat.le_succ _) _⟩

theorem implTurn_val (n : Int) (s : ByteArray) (w : World) (hs : s.size ≤ 1048576) :
    Calls Try.prog 12 #[sqV n s] w fun e w' => e = .returned (sqV n (turnV n s)) ∧ Below w.heap.size w w' := by
  cases hok : okQ n s
  · rw [turnV_no hok]
    have HO : Hid (∀ w, _) := fun w => implOk_val n s w (by unfold maxLen; omega)
    rw [hok] at HO
    have HC : Hid (∀ w, _) := fun w => copied_val n s w (by omega)
    clear hok hs
    unfold sqV at *
    obtain ⟨m0, m1, N⟩ := box2 w n s
    go_enter Try.func12, Try.ntmps12
    go_wp2_with fail
    generalize (w.alloc (.cells #[.int .i64 n, .string s] 25)).alloc (.cells #[.int .i64 0, .string ⟨#[]⟩] 25) = W at *
    refine (HO.out _).mono ?_
    rintro e w1 ⟨rfl, L1⟩
    replace m0 := m0.on L1
    replace m1 := m1.on L1
    replace N := Pk.join_below N L1
    have c0 := m0.n
    have c1 := m0.s
    go_wp2_with fail
    refine (HC.out _).mono ?_
    rintro e w2 ⟨rfl, L2⟩
    replace m1 := m1.on L2
    replace N := Pk.join_below N L2
    have d0 := m1.n
    have d1 := m1.s
    have f0 := m1.f 0
    have f1 := m1.f 1
    clear c0 c1 m0 L1
    go_wp2
    refine bodyPost_ret (v := .agg #[.int .i64 n, .string s]) (by simp [results, Try.results12, go_sem, d0, d1]) rfl ?_
    exact ⟨rfl, (N.setCell (Nat.le_succ _) _).setCell (Nat.le_succ _) _⟩
  · obtain ⟨h, h4, h1, rfl, hz, hg⟩ := ok_form hok
    rw [turnV_ok hok]
    exact implTurn_ok h s w (by unfold maxLen; omega) h4 h1 hok hz

end Sq
end Go.Proofs.Ytkhibgicejcmlam

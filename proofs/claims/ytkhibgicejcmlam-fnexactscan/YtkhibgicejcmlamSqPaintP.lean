/- The program's Paint. -/
import Derived.Test.YtkhibgicejcmlamSqSigns
import Derived.Test.YtkhibgicejcmlamSqRep
import Derived.Deep.RegionHeld3
namespace Go.Proofs.Ytkhibgicejcmlam
namespace Sq
open Go.ChangeShapes Go.WideShapes Go.ChangeAt Go.RowKit
set_option linter.unusedSimpArgs false
set_option linter.unusedVariables false

/-- All signs that are painted. -/
def sgS (s : ByteArray) : ByteArray := (⟨#[49, 48, 48, 48, 48, 48, 48, 48, 48, 49, 49, 49, 48, 49, 49, 49, 49, 49, 49, 49, 48, 49, 49, 49, 48]⟩ : ByteArray) ++ ⟨(sgn (bitsL (bodyS s).data.toList)).toArray⟩

theorem sgS_list (s : ByteArray) : (sgS s).data.toList = hsS.data.toList ++ sgn (bodyB s) := by
  unfold sgS bodyB
  rw [ByteArray.data_append, Array.toList_append]
  rfl

theorem sgS_size (s : ByteArray) : (sgS s).size = 8 * (s.size + 6) + 25 := by
  have h : (sgS s).data.toList.length = 8 * (s.size + 6) + 25 := by
    rw [sgS_list, List.length_append]
    unfold sgn
    rw [List.length_map, bodyB_length]
    show 25 + _ = _
    omega
  rw [Array.length_toList] at h
  exact h

theorem sgS_at (s : ByteArray) (k : Nat) (hk : k < (sgS s).size) : pSign s k = (sgS s)[k] := by
  rw [← getD_at (sgS s) k hk, sgS_list, List.getD_eq_getElem?_getD]
  rw [sgS_size] at hk
  unfold pSign
  have h25 : hsS.data.toList.length = 25 := rfl
  by_cases h : k < 25
  · rw [if_pos h, List.getElem?_append_left (by omega)]
    unfold tb
    rw [List.getD_eq_getElem?_getD]
  · rw [if_neg h, List.getElem?_append_right (by omega), h25]
    unfold sgn bitAt
    have hl : k - 25 < (bodyB s).length := by rw [bodyB_length]; omega
    rw [List.getElem?_map, List.getD_eq_getElem?_getD, List.getElem?_eq_getElem hl]
    rfl

theorem pF_all (s : ByteArray) (h j : Nat) : pF h (pSign s) (8 * (s.size + 6) + 25) j = .int .u8 ((pSign s (kOf (cX h j) (cY h j))).toNat : Int) := by
  unfold pF
  by_cases e : kOf (cX h j) (cY h j) < 8 * (s.size + 6) + 25
  · rw [if_pos e]
  · rw [if_neg e, pSign_bit _ _ (by omega), bitAt_end _ _ (by omega)]
    rfl

set_option maxRecDepth 100000 in
set_option maxHeartbeats 8000000 in
theorem implPaint_ok (s : ByteArray) (w : World) (hs : s.size ≤ 400) :
    Calls Try.prog 17 #[.string s] w fun e w' => e = .returned (.tuple #[sqV (2 * (pH s : Int) + 1) (paintS s), .bool true]) ∧ Below w.heap.size w w' := by
  obtain ⟨hh4, hh30⟩ := pH_bd s
  have hge := pH_ge s hs
  have HSF : Hid (∀ W, Calls Try.prog 43 #[.int .i64 ((sgS s).size : Int)] W fun e w' => e = .returned (.int .i64 (2 * (pH s : Int) + 1)) ∧ w' = W) := fun W => by
    have := sizeFor_val (8 * (s.size + 6)) W (by omega)
    rw [show (((8 * (s.size + 6) : Nat) : Int) + 25) = ((sgS s).size : Int) from by rw [sgS_size]; omega] at this
    exact this
  have HBO : Hid (∀ W, _) := fun W => bodyOf_val s W hs
  have HSI : Hid (∀ W, _) := fun W => signsOf_val (bodyS s) W (by rw [bodyS_size]; omega)
  have HAT : Hid (∀ k (hk : k < (sgS s).size), pSign s k = (sgS s)[k]) := sgS_at s
  have HZ : Hid ((sgS s).size = 8 * (s.size + 6) + 25) := sgS_size s
  have HEN : Hid (∀ j, pF (pH s) (pSign s) (sgS s).size j = .int .u8 ((pSign s (kOf (cX (pH s) j) (cY (pH s) j))).toNat : Int)) := fun j => by
    rw [sgS_size]
    exact pF_all s (pH s) j
  have hcat : (⟨#[49, 48, 48, 48, 48, 48, 48, 48, 48, 49, 49, 49, 48, 49, 49, 49, 49, 49, 49, 49, 48, 49, 49, 49, 48]⟩ : ByteArray) ++ ⟨(sgn (bitsL (bodyS s).data.toList)).toArray⟩ = sgS s := rfl
  have hTs : (⟨(sgn (bitsL (bodyS s).data.toList)).toArray⟩ : ByteArray).size ≤ 4000 := by
    show (sgn (bodyB s)).toArray.size ≤ _
    unfold sgn
    rw [List.size_toArray, List.length_map, bodyB_length]
    omega
  have HP : Hid (paintS s = strT ((2 * pH s + 1) * (2 * pH s + 1)) (fun j => pSign s (kOf (cX (pH s) j) (cY (pH s) j)))) := rfl
  have hc1 : 1 ≤ (sgS s).size := by rw [HZ.out]; omega
  have hcM : (sgS s).size ≤ (2 * pH s + 1) * (2 * pH s + 1) := by rw [HZ.out]; exact hge
  have hsz : (2 * pH s + 1) * (2 * pH s + 1) ≤ 3721 := Nat.mul_le_mul (by omega : 2 * pH s + 1 ≤ 61) (by omega : 2 * pH s + 1 ≤ 61)
  have hsp : 81 ≤ (2 * pH s + 1) * (2 * pH s + 1) := Nat.mul_le_mul (by omega : 9 ≤ 2 * pH s + 1) (by omega : 9 ≤ 2 * pH s + 1)
  clear hge HZ
  generalize (⟨(sgn (bitsL (bodyS s).data.toList)).toArray⟩ : ByteArray) = T at *
  generalize bodyS s = bd at *
  generalize sgS s = SG at *
  generalize paintS s = PS at *
  generalize pH s = h at *
  obtain ⟨M, hM⟩ : ∃ M : Nat, (2 * h + 1) * (2 * h + 1) = M := ⟨_, rfl⟩
  have hMi : (2 * (h : Int) + 1) * (2 * (h : Int) + 1) = (M : Int) := by rw [← hM]; push_cast; rfl
  have HMM : Hid ((2 * h + 1) * (2 * h + 1) = M) := hM
  rw [hM] at hcM hsz hsp HP
  clear hM
  obtain ⟨c, hc⟩ : ∃ c, SG.size = c := ⟨_, rfl⟩
  have HP2 : Hid (∀ (k : Nat) (W : World), k < c → _) := fun k W hk => index_val h ⟨#[]⟩ (E (wx k)) (E (wy k)) (wx k) (wy k) W (E_int (by have := way_bd k (by omega); omega) (by have := way_bd k (by omega); omega)) (E_int (by have := way_bd k (by omega); omega) (by have := way_bd k (by omega); omega)) hh30 (dist_in (way_dist k h (by rw [HMM.out]; omega))).1 (dist_in (way_dist k h (by rw [HMM.out]; omega))).2.1 (dist_in (way_dist k h (by rw [HMM.out]; omega))).2.2.1 (dist_in (way_dist k h (by rw [HMM.out]; omega))).2.2.2
  have HI2 : Hid (∀ k, k < c → idx h (wx k) (wy k) < M) := fun k hk => by
    obtain ⟨a1, a2, a3, a4⟩ := dist_in (way_dist k h (by rw [HMM.out]; omega))
    rw [← HMM.out]; exact idx_lt a1 a2 a3 a4
  have HST : Hid (∀ k, k < c → ∀ j, j < M → pF h (pSign s) (k + 1) j = if j = idx h (wx k) (wy k) then .int .u8 ((pSign s k).toNat : Int) else pF h (pSign s) k j) := fun k hk j _ => pF_step h (pSign s) k (by rw [HMM.out]; omega) j
  have HW : Hid (∀ W, _) := fun W => wayOf_val c W (by omega) (by omega)
  have hcI : (SG.size : Int) = (c : Int) := by omega
  rw [hcI] at HSF
  rw [hc] at HEN
  unfold sqV at *
  have N1 := Pk.new_below w (.cells #[.int .i64 0, .string ⟨#[]⟩] 25)
  have m1 : Box (w.alloc (.cells #[.int .i64 0, .string ⟨#[]⟩] 25)) w.heap.size 0 ⟨#[]⟩ := Pk.heap_new _ _
  go_enter Try.func17, Try.ntmps17
  go_wp2_with fail
  with_reducible refine (HBO.out _).mono ?_
  generalize w.alloc (.cells #[.int .i64 0, .string ⟨#[]⟩] 25) = w1 at *
  rintro e w2 ⟨rfl, L2⟩
  have m2 := m1.on L2
  have K2 := Pk.join_below N1 L2
  clear N1 m1 L2 HBO
  go_wp2_with fail
  with_reducible refine (HSI.out _).mono ?_
  rintro e w3 ⟨rfl, L3⟩
  have m3 := m2.on L3
  have K3 := Pk.join_below K2 L3
  clear m2 K2 L3 HSI
  go_wp2_with fail
  with_reducible refine (HSF.out _).mono ?_
  rintro e w4 ⟨rfl, hw4⟩
  have hw5 := hw4.symm
  subst hw5
  clear HSF
  have HWQ : Hid (w.heap.size ≠ w3.heap.size) := by have := Pk.lt_of m3; show _ ≠ _; omega
  have HQW : Hid (w.heap.size ≤ w3.heap.size) := K3.size
  have N5 := Pk.new_below w3 (.cells #[.int .i64 (2 * (h : Int) + 1), .string ⟨#[]⟩] 25)
  have mq : Box (w3.alloc (.cells #[.int .i64 (2 * (h : Int) + 1), .string ⟨#[]⟩] 25)) w3.heap.size (2 * (h : Int) + 1) ⟨#[]⟩ := Pk.heap_new _ _
  have m5 := m3.on N5
  have K5 := Pk.join_below K3 N5
  have e5 : (w3.alloc (.cells #[.int .i64 (2 * (h : Int) + 1), .string ⟨#[]⟩] 25)).heap.size = w3.heap.size + 1 := by simp
  have N6 := Pk.new_below (w3.alloc (.cells #[.int .i64 (2 * (h : Int) + 1), .string ⟨#[]⟩] 25)) (.cells #[.int .u8 48] 5)
  have c6 : ((w3.alloc (.cells #[.int .i64 (2 * (h : Int) + 1), .string ⟨#[]⟩] 25)).alloc (.cells #[.int .u8 48] 5)).cell? ⟨w3.heap.size + 1, 0, none⟩ = some (.int .u8 48) := by
    have := Pk.cell_at (Pk.heap_new (w3.alloc (.cells #[.int .i64 (2 * (h : Int) + 1), .string ⟨#[]⟩] 25)) (.cells #[.int .u8 48] 5)) 0
    rw [e5] at this
    exact this
  have mq6 := mq.on N6
  have m6 := m5.on N6
  have K6 := Pk.join_below K5 N6
  have l6 : w3.heap.size + 1 < ((w3.alloc (.cells #[.int .i64 (2 * (h : Int) + 1), .string ⟨#[]⟩] 25)).alloc (.cells #[.int .u8 48] 5)).heap.size := by
    have := Pk.lt_of (Pk.heap_new (w3.alloc (.cells #[.int .i64 (2 * (h : Int) + 1), .string ⟨#[]⟩] 25)) (.cells #[.int .u8 48] 5))
    rw [e5] at this
    exact this
  have HRP : Hid (_) := (fun _ : Unit => repeat_val M (w3.heap.size + 1) _ c6 l6 (by omega) (by omega))
  have lq : w3.heap.size < ((w3.alloc (.cells #[.int .i64 (2 * (h : Int) + 1), .string ⟨#[]⟩] 25)).alloc (.cells #[.int .u8 48] 5)).heap.size := by omega
  have lw : w.heap.size < ((w3.alloc (.cells #[.int .i64 (2 * (h : Int) + 1), .string ⟨#[]⟩] 25)).alloc (.cells #[.int .u8 48] 5)).heap.size := Pk.lt_of m6
  clear N5 mq m5 K5 N6 m3 K3 c6 l6 e5
  go_wp2_with fail
  with_reducible refine (HRP.out ()).mono ?_
  generalize hR6 : (w3.alloc (.cells #[.int .i64 (2 * (h : Int) + 1), .string ⟨#[]⟩] 25)).alloc (.cells #[.int .u8 48] 5) = w6 at *
  clear hR6 HRP
  rintro e w7 ⟨rfl, L7, l7, CL7⟩
  have mq7 := mq6.on L7
  have m7 := m6.on L7
  have K7 := Pk.join_below K6 L7
  have lww : w.heap.size ≤ w6.heap.size := K6.size
  clear mq6 m6 K6 L7
  go_wp2_with fail
  with_reducible refine (HW.out _).mono ?_
  rintro e w8 ⟨rfl, mp, L8⟩
  have mq8 := mq7.on L8
  have m8 := m7.on L8
  have K8 := Pk.join_below K7 L8
  have CL8 := CL7.on L8 l7
  generalize hG : w6.heap.size = G at *
  generalize hQ : w3.heap.size = Q at *
  generalize hP8 : w7.heap.size = p at *
  have lG8 : G < w8.heap.size := by have := L8.size; omega
  have R0 : Run w.heap.size w w8 w8 G M (pF h (pSign s) 0) := Run.start K8 lG8 lww (CL8.congr (fun j _ => pF_zero h (pSign s) j))
  clear mq7 m7 K7 CL7 CL8 L8 HW K8
  have hqG : Q ≠ G := by omega
  have hwG : w.heap.size ≠ G := by omega
  have hpG : p ≠ G := by omega
  have hwQ : w.heap.size ≠ Q := HWQ.out
  go_wp2
  go_loopw [32] (fun i wr => ∃ k : Nat, k ≤ c ∧ i = .int .i64 k ∧ Run w.heap.size w w8 wr G M (pF h (pSign s) k)) (fun i _ => c - (intOf i).toNat)
  case atStart => exact ⟨0, by omega, rfl, R0⟩
  case round =>
    clear R0
    obtain ⟨k, hk, rfl, R⟩ := hrel
    by_cases hlt : k < c
    · have MQ : Box wr Q (2 * (h : Int) + 1) ⟨#[]⟩ := R.keep mq8 hqG
      have hcl := row_at (R.keep mp hpG) k hlt
      unfold plV at hcl
      have J2 := HI2.out k hlt
      have X2 : Hid (∀ W, _) := fun W => HP2.out k W hlt
      have XS : Hid (_) := HST.out k hlt
      have hkS : k < SG.size := by omega
      rw [HAT.out k hkS] at XS
      generalize E (wx k) = a at *
      generalize E (wy k) = b at *
      generalize idx h (wx k) (wy k) = i2 at *
      have hk1 : (0 : Int) ≤ (i2 : Int) := by omega
      have hk2 : (i2 : Int) < (M : Int) := by omega
      have hk3 : (0 : Int) ≤ (k : Int) := by omega
      have hk4 : (k : Int) < (c : Int) := by omega
      have hk5 : (k : Int) < (SG.size : Int) := by omega
      have z1 : ¬ G = Q := fun h => hqG h.symm
      have z2 : ¬ Q = G := hqG
      have c0 := MQ.n
      have c1 := MQ.s
      have r0 := (R.row i2 J2).1
      have r1 := (R.row i2 J2).2
      go_wp2
      go_region_held3 (fun w' => w'.cell? ⟨Q, 0, none⟩ = some (.int .i64 (2 * (h : Int) + 1)) ∧ w'.cell? ⟨Q, 1, none⟩ = some (.string ⟨#[]⟩)) (go_keep) (first
        | (go_at_call 32; refine (X2.out _).mono ?_; rintro e x2 ⟨rfl, L3⟩; replace R := (by first | exact R.on L3 | exact R.drew.on L3); have MQ : Box x2 Q (2 * (h : Int) + 1) ⟨#[]⟩ := R.keep mq8 hqG; have c0 := MQ.n; have c1 := MQ.s; have r0 := (R.row i2 J2).1; have r1 := (R.row i2 J2).2))
      all_goals
        go_wp2
        go_roundw
        case rel => exact ⟨k + 1, by omega, by go_num, by first | exact R.set i2 _ XS.out | exact R.drew.set i2 _ XS.out | exact (R.set i2 _ XS.out).drew⟩
        case measure => simp [intOf]; omega
    · obtain rfl : k = c := by omega
      have hcv := R.row.text (cap := M) (fun j _ => HEN.out j)
      rw [← HP.out] at hcv
      have MQ : Box wr Q (2 * (h : Int) + 1) ⟨#[]⟩ := R.keep mq8 hqG
      have MR : Box wr w.heap.size 0 ⟨#[]⟩ := R.keep m8 hwG
      have c0 := MQ.n
      have c1 := MQ.s
      have f0 := MQ.f 0
      have f1 := MQ.f 1
      have d0 := MR.n
      have d1 := MR.s
      have g0 := MR.f 0
      have g1 := MR.f 1
      have LL := R.below
      have hQW : w.heap.size ≤ Q := HQW.out
      go_wp2
      refine bodyPost_ret (v := .tuple #[.agg #[.int .i64 (2 * (h : Int) + 1), .string PS], .bool true]) (by simp [results, Try.results17, go_sem, d0, d1]) rfl ?_
      exact ⟨rfl, ((LL.setCell (p := ⟨Q, 1, none⟩) hQW _).setCell (Nat.le_refl _) _).setCell (Nat.le_refl _) _⟩

end Sq
end Go.Proofs.Ytkhibgicejcmlam

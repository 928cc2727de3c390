/- The heart of a square: its mathematics, the model's test of a field, and the signs along the way. -/
import Derived.Test.YtkhibgicejcmlamSqTurnBy
namespace Go.Proofs.Ytkhibgicejcmlam
namespace Sq
open Go.ChangeShapes Go.WideShapes Go.ChangeAt Go.RowKit
set_option linter.unusedSimpArgs false
set_option linter.unusedVariables false

/-- The sign at field k of the way. -/
def alongF (h : Nat) (s : ByteArray) (k : Nat) : UInt8 := tb s (idx h (wx k) (wy k))

theorem info_u8' : (Try.prog.info? 5).map (fun i => (i.zero, i.size, i.bytes)) = some (some (.int .u8 0), 1, 1) := by kernel_rfl

/-- The signs so far. -/
def aF (h : Nat) (s : ByteArray) (k j : Nat) : Value := if j < k then .int .u8 ((alongF h s j).toNat : Int) else .int .u8 0

theorem aF_step (h : Nat) (s : ByteArray) (k j : Nat) : aF h s (k + 1) j = if j = k then .int .u8 ((tb s (idx h (wx k) (wy k))).toNat : Int) else aF h s k j := by
  unfold aF
  by_cases e : j = k
  · rw [if_pos e, if_pos (by omega), e]; rfl
  · rw [if_neg e]
    by_cases hl : j < k
    · rw [if_pos hl, if_pos (by omega)]
    · rw [if_neg hl, if_neg (by omega)]

set_option maxRecDepth 100000 in
theorem along_val (h : Nat) (s : ByteArray) (c : Nat) (w : World) (h1 : h ≤ 30) (hz : s.size = (2 * h + 1) * (2 * h + 1)) (hc : 1 ≤ c) (hcs : c ≤ s.size) :
    Calls Try.prog 45 #[sqV (2 * (h : Int) + 1) s, .int .i64 c] w fun e w' => e = .returned (.string (strT c (alongF h s))) ∧ Below w.heap.size w w' := by
  have hN : (2 * h + 1) * (2 * h + 1) ≤ 61 * 61 := Nat.mul_le_mul (by omega) (by omega)
  have HW : Hid (∀ w, _) := fun w => wayOf_val c w hc (by omega)
  have hmk := make_run 50 5 _ 1 c Try.underlying50 info_u8' rfl (by omega) (by omega)
  have HP2 : Hid (∀ (k : Nat) (w : World), k < c → _) := fun k w hk => index_val h s (E (wx k)) (E (wy k)) (wx k) (wy k) w (E_int (by have := way_bd k (by omega); omega) (by have := way_bd k (by omega); omega)) (E_int (by have := way_bd k (by omega); omega) (by have := way_bd k (by omega); omega)) h1 (dist_in (way_dist k h (by omega))).1 (dist_in (way_dist k h (by omega))).2.1 (dist_in (way_dist k h (by omega))).2.2.1 (dist_in (way_dist k h (by omega))).2.2.2
  have HI2 : Hid (∀ k, k < c → idx h (wx k) (wy k) < s.size) := fun k hk => by
    obtain ⟨a1, a2, a3, a4⟩ := dist_in (way_dist k h (by omega))
    rw [hz]; exact idx_lt a1 a2 a3 a4
  have HST : Hid (∀ k j, j < c → aF h s (k + 1) j = if j = k then .int .u8 ((tb s (idx h (wx k) (wy k))).toNat : Int) else aF h s k j) := fun k j hj => aF_step h s k j
  have HEN : Hid (∀ j, j < c → aF h s c j = .int .u8 ((alongF h s j).toNat : Int)) := fun j hj => by show _ = _; unfold aF; rw [if_pos hj]
  have hc3 : c ≤ 3721 := by omega
  clear hz hN h1 hcs
  generalize ht : strT c (alongF h s) = T at *
  unfold sqV at *
  generalize 2 * (h : Int) + 1 = n at *
  have m0 : Box (w.alloc (.cells #[.int .i64 n, .string s] 25)) w.heap.size n s := Pk.heap_new w _
  have N := Pk.new_below w (.cells #[.int .i64 n, .string s] 25)
  go_enter Try.func45, Try.ntmps45
  have K := Pk.new_below (w.alloc (.cells #[.int .i64 n, .string s] 25)) (.cells (tab c (fun _ => .int .u8 0)) 5)
  have G := Pk.heap_new (w.alloc (.cells #[.int .i64 n, .string s] 25)) (.cells (tab c (fun _ => .int .u8 0)) 5)
  have m2 := m0.on K
  have N2 := Pk.join_below N K
  have e1 : (w.alloc (.cells #[.int .i64 n, .string s] 25)).heap.size = w.heap.size + 1 := by simp
  rw [e1] at G
  go_wp2_with fail
  generalize (w.alloc (.cells #[.int .i64 n, .string s] 25)).alloc (.cells (tab c (fun _ => .int .u8 0)) 5) = w2 at *
  refine (HW.out _).mono ?_
  rintro e w3 ⟨rfl, m, L3⟩
  have hg2 : w.heap.size + 1 < w2.heap.size := Pk.lt_of G
  replace m2 := m2.on L3
  have G3 := Pk.kept L3 (Pk.lt_of G) G
  have N3 := Pk.join_below N2 L3
  have R0 : Run w.heap.size w w3 w3 (w.heap.size + 1) c (aF h s 0) := Run.start N3 (Pk.lt_of G3) (by omega) ((Cl.of_tab G3).congr (fun j _ => by unfold aF; rw [if_neg (by omega)]))
  clear m0 N K N2 L3 G G3 e1
  generalize hg : w.heap.size + 1 = g at *
  generalize hp : w2.heap.size = p at *
  have hpg : p ≠ g := by omega
  have hbg : w.heap.size ≠ g := by omega
  go_wp2
  go_loopw [13] (fun i wr => ∃ k : Nat, k ≤ c ∧ i = .int .i64 k ∧ Run w.heap.size w w3 wr g c (aF h s k)) (fun i _ => c - (intOf i).toNat)
  case atStart => exact ⟨0, by omega, rfl, R0⟩
  case round =>
    obtain ⟨k, hk, rfl, R⟩ := hrel
    by_cases hlt : k < c
    · have M : Box wr w.heap.size n s := R.keep m2 hbg
      have hcl := row_at (R.keep m hpg) k hlt
      unfold plV at hcl
      have J2 := HI2.out k hlt
      have X2 : Hid (∀ w, _) := fun w => HP2.out k w hlt
      have XS : Hid (_) := HST.out k
      have X4 := getD_at s _ J2
      rw [show s.data.toList.getD (idx h (wx k) (wy k)) 0 = tb s (idx h (wx k) (wy k)) from rfl] at X4
      rw [X4] at XS
      clear X4
      generalize E (wx k) = a at *
      generalize E (wy k) = b at *
      generalize idx h (wx k) (wy k) = i2 at *
      have hk1 : (0 : Int) ≤ (i2 : Int) := by omega
      have hk2 : (i2 : Int) < (s.size : Int) := by omega
      have hk3 : (0 : Int) ≤ (k : Int) := by omega
      have hk4 : (k : Int) < (c : Int) := by omega
      have z1 : ¬ g = w.heap.size := fun h => hbg h.symm
      have z2 : ¬ w.heap.size = g := hbg
      have c0 := M.n
      have c1 := M.s
      have r0 := (R.row k hlt).1
      have r1 := (R.row k hlt).2
      go_wp2
      go_region_held3 (fun w' => w'.cell? ⟨w.heap.size, 0, none⟩ = some (.int .i64 n) ∧ w'.cell? ⟨w.heap.size, 1, none⟩ = some (.string s)) (go_keep) (first
        | (go_at_call 32; refine (X2.out _).mono ?_; rintro e x2 ⟨rfl, L3⟩; replace R := (by first | exact R.on L3 | exact R.drew.on L3); have M : Box x2 w.heap.size n s := R.keep m2 hbg; have c0 := M.n; have c1 := M.s; have r0 := (R.row k hlt).1; have r1 := (R.row k hlt).2))
      all_goals
        go_wp2
        go_roundw
        case rel => exact ⟨k + 1, by omega, by go_num, by first | exact R.set k _ XS.out | exact R.drew.set k _ XS.out | exact (R.set k _ XS.out).drew⟩
        case measure => simp [intOf]; omega
    · obtain rfl : k = c := by omega
      have hcv := R.row.text (cap := k) HEN.out
      rw [ht] at hcv
      have LL := R.below
      go_wp2
      go_ret
      exact ⟨rfl, LL⟩

/-- The greatest so far of a place's list. -/
def mz (x y : Int) (k : Nat) : Int := if k = 0 then 0 else if k = 1 then max 0 x else if k = 2 then max (max 0 x) (-x) else if k = 3 then max (max (max 0 x) (-x)) y else max (max (max (max 0 x) (-x)) y) (-y)

def lz (x y : Int) (k : Nat) : Int := if k = 0 then x else if k = 1 then -x else if k = 2 then y else -y

theorem mz_step (x y : Int) (k : Nat) (hk : k < 4) : mz x y (k + 1) = max (mz x y k) (lz x y k) := by
  obtain rfl | rfl | rfl | rfl : k = 0 ∨ k = 1 ∨ k = 2 ∨ k = 3 := by omega
  all_goals rfl

theorem mz_end (x y : Int) : mz x y 4 = (dist x y : Int) := by
  show max (max (max (max 0 x) (-x)) y) (-y) = ((max x.natAbs y.natAbs : Nat) : Int)
  omega

theorem lz_bd {x y : Int} (h1 : -30 ≤ x) (h2 : x ≤ 30) (h3 : -30 ≤ y) (h4 : y ≤ 30) (k : Nat) : -30 ≤ lz x y k ∧ lz x y k ≤ 30 := by
  unfold lz
  by_cases e : k = 0
  · rw [if_pos e]; omega
  · rw [if_neg e]
    by_cases e : k = 1
    · rw [if_pos e]; omega
    · rw [if_neg e]
      by_cases e : k = 2
      · rw [if_pos e]; omega
      · rw [if_neg e]; omega

theorem lz_cell {w : World} {x y : Int} {t : TypeId} (k : Nat) (hk : k < 4) : (w.alloc (.cells #[.int .i64 x, .int .i64 (-x), .int .i64 y, .int .i64 (-y)] t)).cell? ⟨w.heap.size, k, none⟩ = some (.int .i64 (lz x y k)) := by
  rw [Pk.cell_at (Pk.heap_new w _) k]
  obtain rfl | rfl | rfl | rfl : k = 0 ∨ k = 1 ∨ k = 2 ∨ k = 3 := by omega
  all_goals rfl

theorem dist_val (x y : Int) (w : World) (h1 : -30 ≤ x) (h2 : x ≤ 30) (h3 : -30 ≤ y) (h4 : y ≤ 30) :
    Calls Try.prog 65 #[.int .i64 x, .int .i64 y] w fun e w' => e = .returned (.int .i64 (dist x y)) ∧ Below w.heap.size w w' := by
  have HC : Hid (∀ k, k < 4 → _) := fun k hk => lz_cell (w := w) (x := x) (y := y) (t := 3) k hk
  have HB : Hid (∀ k, _) := fun k => lz_bd h1 h2 h3 h4 k
  have HM : Hid (_) := mz_end x y
  generalize (dist x y : Int) = D at *
  have N := Pk.new_below w (.cells #[.int .i64 x, .int .i64 (-x), .int .i64 y, .int .i64 (-y)] 3)
  go_enter Try.func65, Try.ntmps65
  go_wp2
  generalize w.alloc (.cells #[.int .i64 x, .int .i64 (-x), .int .i64 y, .int .i64 (-y)] 3) = W at *
  go_loop [5, 7] (fun d i => ∃ (k : Nat) (e : Int), k ≤ 4 ∧ -30 ≤ e ∧ e ≤ 30 ∧ i = .int .i64 k ∧ d = .int .i64 e ∧ Hid (e = mz x y k)) (fun _ i => 4 - (intOf i).toNat)
  case atStart => exact ⟨0, 0, by omega, by omega, by omega, rfl, rfl, rfl⟩
  case round =>
    obtain ⟨k, e, hk, he1, he2, rfl, rfl, H⟩ := hrel
    by_cases hk3 : k < 4
    · have hc := HC.out k hk3
      obtain ⟨l1, l2⟩ := HB.out k
      have HX : Hid (_) := mz_step x y k hk3
      rw [← H.out] at HX
      generalize lz x y k = q at *
      by_cases hgt : e < q
      · go_wp2
        go_round
        case rel => exact ⟨k + 1, q, by omega, l1, l2, by go_num, rfl, by show _ = _; rw [HX.out]; omega⟩
        case measure => simp [intOf]; omega
      · go_wp2
        go_round
        case rel => exact ⟨k + 1, e, by omega, he1, he2, by go_num, rfl, by show _ = _; rw [HX.out]; omega⟩
        case measure => simp [intOf]; omega
    · obtain rfl : k = 4 := by omega
      have hE := H.out.trans HM.out
      subst hE
      go_wp2
      go_ret
      exact ⟨rfl, N⟩

/-- Whether a field of the heart is dark. -/
def heartI (x y : Int) : Int := if dist x y = 1 ∨ ((x = 2 ∨ x = -2) ∧ (y = 2 ∨ y = -2) ∧ ¬ (x = -2 ∧ y = -2)) then 0 else 1

theorem heart_at (x y : Int) (d : Nat) (q : Int) (w : World) (hd : dist x y = d) (hq : heartI x y = q) (h1 : -2 ≤ x) (h2 : x ≤ 2) (h3 : -2 ≤ y) (h4 : y ≤ 2)
    (H : (∀ w, Calls Try.prog 65 #[.int .i64 x, .int .i64 y] w fun e w' => e = .returned (.int .i64 d) ∧ Below w.heap.size w w') → Calls Try.prog 40 #[.int .i64 x, .int .i64 y] w fun e w' => e = .returned (.int .i64 q) ∧ Below w.heap.size w w') :
    Calls Try.prog 40 #[.int .i64 x, .int .i64 y] w fun e w' => e = .returned (.int .i64 (heartI x y)) ∧ Below w.heap.size w w' := by
  rw [hq]
  apply H
  intro w
  have := dist_val x y w (by omega) (by omega) (by omega) (by omega)
  rw [hd] at this
  exact this

theorem heart_val (x y : Int) (w : World) (h1 : -2 ≤ x) (h2 : x ≤ 2) (h3 : -2 ≤ y) (h4 : y ≤ 2) :
    Calls Try.prog 40 #[.int .i64 x, .int .i64 y] w fun e w' => e = .returned (.int .i64 (heartI x y)) ∧ Below w.heap.size w w' := by
  obtain rfl | rfl | rfl | rfl | rfl : x = -2 ∨ x = -1 ∨ x = 0 ∨ x = 1 ∨ x = 2 := by omega
  · obtain rfl | rfl | rfl | rfl | rfl : y = -2 ∨ y = -1 ∨ y = 0 ∨ y = 1 ∨ y = 2 := by omega
    · refine heart_at (-2) (-2) 2 1 w (by decide) (by decide) h1 h2 h3 h4 (fun HD0 => ?_)
      have HD : Hid _ := HD0
      clear HD0 h1 h2 h3 h4
      go_enter Try.func40, Try.ntmps40
      go_wp2_with fail
      refine (HD.out _).mono ?_
      rintro e w1 ⟨rfl, L⟩
      go_wp2
      go_ret
      exact ⟨rfl, L⟩
    · refine heart_at (-2) (-1) 2 1 w (by decide) (by decide) h1 h2 h3 h4 (fun HD0 => ?_)
      have HD : Hid _ := HD0
      clear HD0 h1 h2 h3 h4
      go_enter Try.func40, Try.ntmps40
      go_wp2_with fail
      refine (HD.out _).mono ?_
      rintro e w1 ⟨rfl, L⟩
      go_wp2
      go_ret
      exact ⟨rfl, L⟩
    · refine heart_at (-2) 0 2 1 w (by decide) (by decide) h1 h2 h3 h4 (fun HD0 => ?_)
      have HD : Hid _ := HD0
      clear HD0 h1 h2 h3 h4
      go_enter Try.func40, Try.ntmps40
      go_wp2_with fail
      refine (HD.out _).mono ?_
      rintro e w1 ⟨rfl, L⟩
      go_wp2
      go_ret
      exact ⟨rfl, L⟩
    · refine heart_at (-2) 1 2 1 w (by decide) (by decide) h1 h2 h3 h4 (fun HD0 => ?_)
      have HD : Hid _ := HD0
      clear HD0 h1 h2 h3 h4
      go_enter Try.func40, Try.ntmps40
      go_wp2_with fail
      refine (HD.out _).mono ?_
      rintro e w1 ⟨rfl, L⟩
      go_wp2
      go_ret
      exact ⟨rfl, L⟩
    · refine heart_at (-2) 2 2 0 w (by decide) (by decide) h1 h2 h3 h4 (fun HD0 => ?_)
      have HD : Hid _ := HD0
      clear HD0 h1 h2 h3 h4
      go_enter Try.func40, Try.ntmps40
      go_wp2_with fail
      refine (HD.out _).mono ?_
      rintro e w1 ⟨rfl, L⟩
      go_wp2
      go_ret
      exact ⟨rfl, L⟩
  · obtain rfl | rfl | rfl | rfl | rfl : y = -2 ∨ y = -1 ∨ y = 0 ∨ y = 1 ∨ y = 2 := by omega
    · refine heart_at (-1) (-2) 2 1 w (by decide) (by decide) h1 h2 h3 h4 (fun HD0 => ?_)
      have HD : Hid _ := HD0
      clear HD0 h1 h2 h3 h4
      go_enter Try.func40, Try.ntmps40
      go_wp2_with fail
      refine (HD.out _).mono ?_
      rintro e w1 ⟨rfl, L⟩
      go_wp2
      go_ret
      exact ⟨rfl, L⟩
    · refine heart_at (-1) (-1) 1 0 w (by decide) (by decide) h1 h2 h3 h4 (fun HD0 => ?_)
      have HD : Hid _ := HD0
      clear HD0 h1 h2 h3 h4
      go_enter Try.func40, Try.ntmps40
      go_wp2_with fail
      refine (HD.out _).mono ?_
      rintro e w1 ⟨rfl, L⟩
      go_wp2
      go_ret
      exact ⟨rfl, L⟩
    · refine heart_at (-1) 0 1 0 w (by decide) (by decide) h1 h2 h3 h4 (fun HD0 => ?_)
      have HD : Hid _ := HD0
      clear HD0 h1 h2 h3 h4
      go_enter Try.func40, Try.ntmps40
      go_wp2_with fail
      refine (HD.out _).mono ?_
      rintro e w1 ⟨rfl, L⟩
      go_wp2
      go_ret
      exact ⟨rfl, L⟩
    · refine heart_at (-1) 1 1 0 w (by decide) (by decide) h1 h2 h3 h4 (fun HD0 => ?_)
      have HD : Hid _ := HD0
      clear HD0 h1 h2 h3 h4
      go_enter Try.func40, Try.ntmps40
      go_wp2_with fail
      refine (HD.out _).mono ?_
      rintro e w1 ⟨rfl, L⟩
      go_wp2
      go_ret
      exact ⟨rfl, L⟩
    · refine heart_at (-1) 2 2 1 w (by decide) (by decide) h1 h2 h3 h4 (fun HD0 => ?_)
      have HD : Hid _ := HD0
      clear HD0 h1 h2 h3 h4
      go_enter Try.func40, Try.ntmps40
      go_wp2_with fail
      refine (HD.out _).mono ?_
      rintro e w1 ⟨rfl, L⟩
      go_wp2
      go_ret
      exact ⟨rfl, L⟩
  · obtain rfl | rfl | rfl | rfl | rfl : y = -2 ∨ y = -1 ∨ y = 0 ∨ y = 1 ∨ y = 2 := by omega
    · refine heart_at 0 (-2) 2 1 w (by decide) (by decide) h1 h2 h3 h4 (fun HD0 => ?_)
      have HD : Hid _ := HD0
      clear HD0 h1 h2 h3 h4
      go_enter Try.func40, Try.ntmps40
      go_wp2_with fail
      refine (HD.out _).mono ?_
      rintro e w1 ⟨rfl, L⟩
      go_wp2
      go_ret
      exact ⟨rfl, L⟩
    · refine heart_at 0 (-1) 1 0 w (by decide) (by decide) h1 h2 h3 h4 (fun HD0 => ?_)
      have HD : Hid _ := HD0
      clear HD0 h1 h2 h3 h4
      go_enter Try.func40, Try.ntmps40
      go_wp2_with fail
      refine (HD.out _).mono ?_
      rintro e w1 ⟨rfl, L⟩
      go_wp2
      go_ret
      exact ⟨rfl, L⟩
    · refine heart_at 0 0 0 1 w (by decide) (by decide) h1 h2 h3 h4 (fun HD0 => ?_)
      have HD : Hid _ := HD0
      clear HD0 h1 h2 h3 h4
      go_enter Try.func40, Try.ntmps40
      go_wp2_with fail
      refine (HD.out _).mono ?_
      rintro e w1 ⟨rfl, L⟩
      go_wp2
      go_ret
      exact ⟨rfl, L⟩
    · refine heart_at 0 1 1 0 w (by decide) (by decide) h1 h2 h3 h4 (fun HD0 => ?_)
      have HD : Hid _ := HD0
      clear HD0 h1 h2 h3 h4
      go_enter Try.func40, Try.ntmps40
      go_wp2_with fail
      refine (HD.out _).mono ?_
      rintro e w1 ⟨rfl, L⟩
      go_wp2
      go_ret
      exact ⟨rfl, L⟩
    · refine heart_at 0 2 2 1 w (by decide) (by decide) h1 h2 h3 h4 (fun HD0 => ?_)
      have HD : Hid _ := HD0
      clear HD0 h1 h2 h3 h4
      go_enter Try.func40, Try.ntmps40
      go_wp2_with fail
      refine (HD.out _).mono ?_
      rintro e w1 ⟨rfl, L⟩
      go_wp2
      go_ret
      exact ⟨rfl, L⟩
  · obtain rfl | rfl | rfl | rfl | rfl : y = -2 ∨ y = -1 ∨ y = 0 ∨ y = 1 ∨ y = 2 := by omega
    · refine heart_at 1 (-2) 2 1 w (by decide) (by decide) h1 h2 h3 h4 (fun HD0 => ?_)
      have HD : Hid _ := HD0
      clear HD0 h1 h2 h3 h4
      go_enter Try.func40, Try.ntmps40
      go_wp2_with fail
      refine (HD.out _).mono ?_
      rintro e w1 ⟨rfl, L⟩
      go_wp2
      go_ret
      exact ⟨rfl, L⟩
    · refine heart_at 1 (-1) 1 0 w (by decide) (by decide) h1 h2 h3 h4 (fun HD0 => ?_)
      have HD : Hid _ := HD0
      clear HD0 h1 h2 h3 h4
      go_enter Try.func40, Try.ntmps40
      go_wp2_with fail
      refine (HD.out _).mono ?_
      rintro e w1 ⟨rfl, L⟩
      go_wp2
      go_ret
      exact ⟨rfl, L⟩
    · refine heart_at 1 0 1 0 w (by decide) (by decide) h1 h2 h3 h4 (fun HD0 => ?_)
      have HD : Hid _ := HD0
      clear HD0 h1 h2 h3 h4
      go_enter Try.func40, Try.ntmps40
      go_wp2_with fail
      refine (HD.out _).mono ?_
      rintro e w1 ⟨rfl, L⟩
      go_wp2
      go_ret
      exact ⟨rfl, L⟩
    · refine heart_at 1 1 1 0 w (by decide) (by decide) h1 h2 h3 h4 (fun HD0 => ?_)
      have HD : Hid _ := HD0
      clear HD0 h1 h2 h3 h4
      go_enter Try.func40, Try.ntmps40
      go_wp2_with fail
      refine (HD.out _).mono ?_
      rintro e w1 ⟨rfl, L⟩
      go_wp2
      go_ret
      exact ⟨rfl, L⟩
    · refine heart_at 1 2 2 1 w (by decide) (by decide) h1 h2 h3 h4 (fun HD0 => ?_)
      have HD : Hid _ := HD0
      clear HD0 h1 h2 h3 h4
      go_enter Try.func40, Try.ntmps40
      go_wp2_with fail
      refine (HD.out _).mono ?_
      rintro e w1 ⟨rfl, L⟩
      go_wp2
      go_ret
      exact ⟨rfl, L⟩
  · obtain rfl | rfl | rfl | rfl | rfl : y = -2 ∨ y = -1 ∨ y = 0 ∨ y = 1 ∨ y = 2 := by omega
    · refine heart_at 2 (-2) 2 0 w (by decide) (by decide) h1 h2 h3 h4 (fun HD0 => ?_)
      have HD : Hid _ := HD0
      clear HD0 h1 h2 h3 h4
      go_enter Try.func40, Try.ntmps40
      go_wp2_with fail
      refine (HD.out _).mono ?_
      rintro e w1 ⟨rfl, L⟩
      go_wp2
      go_ret
      exact ⟨rfl, L⟩
    · refine heart_at 2 (-1) 2 1 w (by decide) (by decide) h1 h2 h3 h4 (fun HD0 => ?_)
      have HD : Hid _ := HD0
      clear HD0 h1 h2 h3 h4
      go_enter Try.func40, Try.ntmps40
      go_wp2_with fail
      refine (HD.out _).mono ?_
      rintro e w1 ⟨rfl, L⟩
      go_wp2
      go_ret
      exact ⟨rfl, L⟩
    · refine heart_at 2 0 2 1 w (by decide) (by decide) h1 h2 h3 h4 (fun HD0 => ?_)
      have HD : Hid _ := HD0
      clear HD0 h1 h2 h3 h4
      go_enter Try.func40, Try.ntmps40
      go_wp2_with fail
      refine (HD.out _).mono ?_
      rintro e w1 ⟨rfl, L⟩
      go_wp2
      go_ret
      exact ⟨rfl, L⟩
    · refine heart_at 2 1 2 1 w (by decide) (by decide) h1 h2 h3 h4 (fun HD0 => ?_)
      have HD : Hid _ := HD0
      clear HD0 h1 h2 h3 h4
      go_enter Try.func40, Try.ntmps40
      go_wp2_with fail
      refine (HD.out _).mono ?_
      rintro e w1 ⟨rfl, L⟩
      go_wp2
      go_ret
      exact ⟨rfl, L⟩
    · refine heart_at 2 2 2 0 w (by decide) (by decide) h1 h2 h3 h4 (fun HD0 => ?_)
      have HD : Hid _ := HD0
      clear HD0 h1 h2 h3 h4
      go_enter Try.func40, Try.ntmps40
      go_wp2_with fail
      refine (HD.out _).mono ?_
      rintro e w1 ⟨rfl, L⟩
      go_wp2
      go_ret
      exact ⟨rfl, L⟩

end Sq
end Go.Proofs.Ytkhibgicejcmlam

/- Contracts of Heart, of the program and of its model. -/
import Derived.Test.YtkhibgicejcmlamSqHeart
namespace Go.Proofs.Ytkhibgicejcmlam
namespace Sq
open Go.ChangeShapes Go.WideShapes Go.ChangeAt Go.RowKit
set_option linter.unusedSimpArgs false
set_option linter.unusedVariables false

/-- The heart's signs along the way. -/
def hsS : ByteArray := ⟨#[49, 48, 48, 48, 48, 48, 48, 48, 48, 49, 49, 49, 48, 49, 49, 49, 49, 49, 49, 49, 48, 49, 49, 49, 48]⟩

/-- The first k fields of the way are as in a heart. -/
def hOk (h : Nat) (s : ByteArray) (k : Nat) : Bool := (List.range k).all fun j => decide (alongF h s j = tb hsS j)

theorem hOk_step (h : Nat) (s : ByteArray) (k : Nat) : hOk h s (k + 1) = (hOk h s k && decide (alongF h s k = tb hsS k)) := by
  unfold hOk
  rw [List.range_succ, List.all_append, List.all_cons, List.all_nil, Bool.and_true]

theorem heart_tab : ∀ k, k < 25 → heartI (wx k) (wy k) = ((tb hsS k).toNat : Int) - 48 := by decide

theorem hOk_text (h : Nat) (s : ByteArray) : (strT 25 (alongF h s) = hsS) ↔ hOk h s 25 = true := by
  have e : hsS = strT 25 (tb hsS) := by rw [show (25 : Nat) = hsS.size from rfl, strT_self]
  constructor
  · intro k
    unfold hOk
    rw [List.all_eq_true]
    intro j hj
    have hj' := List.mem_range.1 hj
    rw [decide_eq_true_eq, ← k, strT_at _ _ _ hj']
  · intro k
    rw [e]
    apply strT_congr
    intro j hj
    unfold hOk at k
    exact of_decide_eq_true (List.all_eq_true.1 k j (List.mem_range.2 hj))

/-- The first number from m on, below m + f, that is right. -/
def hv (p : Nat → Bool) : Nat → Nat → Int
  | 0, _ => -1
  | f + 1, m => if p m = true then m else hv p f (m + 1)

def hAt (h : Nat) (n : Int) (s : ByteArray) (m : Nat) : Bool := hOk h (turnN n s m) 25

/-- What Heart answers. -/
def heartV (n : Int) (s : ByteArray) : Int := if okQ n s = true then hv (hAt (Int.tdiv n 2).toNat n s) 4 0 else -1

theorem heartV_ok {h : Nat} {s : ByteArray} (hok : okQ (2 * (h : Int) + 1) s = true) : heartV (2 * (h : Int) + 1) s = hv (hAt h (2 * (h : Int) + 1) s) 4 0 := by
  unfold heartV
  rw [if_pos hok, half_is, Int.toNat_natCast]

theorem heartV_no {n : Int} {s : ByteArray} (hok : okQ n s = false) : heartV n s = -1 := by
  unfold heartV
  rw [if_neg (by rw [hok]; decide)]

theorem tb_at (s : ByteArray) (i : Nat) (h : i < s.size) : tb s i = s[i] := getD_at s i h

theorem ok_mk {h : Nat} {s : ByteArray} (h4 : 4 ≤ h) (h1 : h ≤ 30) (hz : s.size = (2 * h + 1) * (2 * h + 1)) (hb : ∀ j, j < s.size → (tb s j).toNat = 48 ∨ (tb s j).toNat = 49) : okQ (2 * (h : Int) + 1) s = true := by
  unfold okQ headOk
  rw [Bool.and_eq_true]
  constructor
  · apply decide_eq_true
    refine ⟨by omega, by omega, by omega, ?_⟩
    rw [hz, Int.natCast_mul]
    have : ((2 * h + 1 : Nat) : Int) = 2 * (h : Int) + 1 := by omega
    rw [this]
  · unfold signsFrom
    rw [List.drop_zero, List.all_eq_true]
    intro b hm
    obtain ⟨i, hi, rfl⟩ := List.getElem_of_mem hm
    apply decide_eq_true
    have hi' : i < s.size := by rw [Array.length_toList] at hi; exact hi
    have := hb i hi'
    rw [tb_at s i hi'] at this
    exact this

theorem sign_tb {h : Nat} {s : ByteArray} (hz : s.size = (2 * h + 1) * (2 * h + 1)) (hg : signsFrom s 0 = true) {x y : Int} (hx1 : -(h : Int) ≤ x) (hx2 : x ≤ h) (hy1 : -(h : Int) ≤ y) (hy2 : y ≤ h) : (tb s (idx h x y)).toNat = 48 ∨ (tb s (idx h x y)).toNat = 49 := by
  have hi : idx h x y < s.size := by rw [hz]; exact idx_lt hx1 hx2 hy1 hy2
  rw [tb_at s _ hi]
  exact sign_at hg _ hi

/-- A square stays right when it is turned. -/
theorem ok_turn {n : Int} {s : ByteArray} (hok : okQ n s = true) : okQ n (turnV n s) = true := by
  obtain ⟨h, h4, h1, rfl, hz, hg⟩ := ok_form hok
  rw [turnV_ok hok]
  refine ok_mk h4 h1 (by rw [turnS, strT_size]) ?_
  intro j hj
  rw [turnS, strT_size] at hj
  rw [turnS, strT_at _ _ _ hj]
  obtain ⟨⟨a, b⟩, c, d⟩ := c_in hj
  exact sign_tb hz hg c d (by omega) (by omega)

theorem ok_turnN {n : Int} {s : ByteArray} (hok : okQ n s = true) (k : Nat) : okQ n (turnN n s k) = true := by
  induction k with
  | zero => exact hok
  | succ k ih => exact ok_turn ih

set_option maxRecDepth 100000 in
theorem implHeart_ok (h : Nat) (s : ByteArray) (w : World) (h4 : 4 ≤ h) (h1 : h ≤ 30) (hok : okQ (2 * (h : Int) + 1) s = true) (hz : s.size = (2 * h + 1) * (2 * h + 1)) :
    Calls Try.prog 19 #[sqV (2 * (h : Int) + 1) s] w fun e w' => e = .returned (.int .i64 (hv (hAt h (2 * (h : Int) + 1) s) 4 0)) ∧ Below w.heap.size w w' := by
  have hN : (2 * h + 1) * (2 * h + 1) ≤ 61 * 61 := Nat.mul_le_mul (by omega) (by omega)
  have hN1 : 9 * 9 ≤ (2 * h + 1) * (2 * h + 1) := Nat.mul_le_mul (by omega) (by omega)
  have HO : Hid (∀ w, _) := fun w => implOk_val (2 * (h : Int) + 1) s w (by unfold maxLen; omega)
  rw [hok] at HO
  have HT : Hid (∀ k w, _) := fun k w => implTurn_val (2 * (h : Int) + 1) (turnN (2 * (h : Int) + 1) s k) w (by rw [turnN_size]; omega)
  have HL : Hid (∀ k w, _) := fun k w => along_val h (turnN (2 * (h : Int) + 1) s k) 25 w h1 (by rw [turnN_size]; exact hz) (by omega) (by rw [turnN_size]; omega)
  have HE : Hid (∀ k, (strT 25 (alongF h (turnN (2 * (h : Int) + 1) s k)) = hsS) ↔ hAt h (2 * (h : Int) + 1) s k = true) := fun k => hOk_text h _
  unfold sqV at *
  clear hok hz hN hN1 h4 h1
  generalize 2 * (h : Int) + 1 = n at *
  generalize hAt h n s = P at *
  generalize hV : hv P 4 0 = V at *
  have m0 : Box (w.alloc (.cells #[.int .i64 n, .string s] 25)) w.heap.size n s := Pk.heap_new w _
  have N := Pk.new_below w (.cells #[.int .i64 n, .string s] 25)
  go_enter Try.func19, Try.ntmps19
  go_wp2_with fail
  generalize w.alloc (.cells #[.int .i64 n, .string s] 25) = W at *
  refine (HO.out _).mono ?_
  rintro e w1 ⟨rfl, L1⟩
  replace m0 := m0.on L1
  replace N := Pk.join_below N L1
  have HV : Hid (V = hv P 4 0) := hV.symm
  clear hV L1
  go_wp2
  go_loopw [7] (fun i wr => ∃ k f : Nat, k + f = 4 ∧ i = .int .i64 k ∧ Box wr w.heap.size n (turnN n s k) ∧ Hid (Below w.heap.size w wr) ∧ Hid (V = hv P f k)) (fun i _ => 4 - (intOf i).toNat)
  case atStart => exact ⟨0, 4, by omega, rfl, m0, N, HV⟩
  case round =>
    obtain ⟨k, f, hkf, rfl, m2, N2, HF⟩ := hrel
    by_cases hlt : k < 4
    · obtain ⟨f', rfl⟩ : ∃ f', f = f' + 1 := ⟨f - 1, by omega⟩
      have HK : Hid (∀ w, _) := fun w => HT.out k w
      have HA : Hid (∀ w, _) := fun w => HL.out k w
      have HQ : Hid (_) := HE.out k
      have HX : Hid (turnN n s (k + 1) = turnV n (turnN n s k)) := rfl
      generalize strT 25 (alongF h (turnN n s k)) = T at *
      generalize turnV n (turnN n s k) = q1 at *
      generalize turnN n s k = q0 at *
      have c0 := m2.n
      have c1 := m2.s
      go_wp2_with fail
      refine (HA.out _).mono ?_
      rintro e w3 ⟨rfl, L3⟩
      have m4 := m2.on L3
      have N3 := Pk.join_below N2.out L3
      have d0 := m4.n
      have d1 := m4.s
      by_cases hT : T = hsS
      · subst hT
        have HY : Hid (V = k) := by show _ = _; rw [HF.out, hv, if_pos (HQ.out.1 rfl)]
        unfold hsS
        go_wp2
        go_ret
        exact ⟨by rw [HY.out]; rfl, N3⟩
      · have HY : Hid (V = hv P f' (k + 1)) := by show _ = _; rw [HF.out, hv, if_neg (fun h => hT (HQ.out.2 h))]
        have hT2 : (T.toList == [49, 48, 48, 48, 48, 48, 48, 48, 48, 49, 49, 49, 48, 49, 49, 49, 49, 49, 49, 49, 48, 49, 49, 49, 48]) = false := by
          rw [beq_eq_false_iff_ne]
          intro h
          apply hT
          rw [ByteArray.toList_eq] at h
          cases T with
          | mk a => unfold hsS; congr 1; rw [← Array.toList_inj]; exact h
        clear hT
        go_wp2_with fail
        refine (HK.out _).mono ?_
        rintro e w5 ⟨rfl, L5⟩
        have m6 := m4.on L5
        have N5 := Pk.join_below N3 L5
        have p0 := m6.n
        have p1 := m6.s
        have f0 := m6.f 0
        have f1 := m6.f 1
        go_wp2
        go_roundw
        case rel => exact ⟨k + 1, f', by omega, by go_num, by rw [HX.out]; exact m6.put n q1, (N5.setCell (Nat.le_refl _) _).setCell (Nat.le_refl _) _, HY⟩
        case measure => simp [intOf]; omega
    · obtain rfl : k = 4 := by omega
      obtain rfl : f = 0 := by omega
      have HY : Hid (V = -1) := HF
      go_wp2
      go_ret
      exact ⟨by rw [HY.out]; rfl, N2.out⟩

theorem hOk_sign {h : Nat} {s : ByteArray} {k : Nat} (hk : k < 25) (q : UInt8) (hq : alongF h s k = q) : ((q.toNat : Int) - 48 = heartI (wx k) (wy k)) ↔ alongF h s k = tb hsS k := by
  rw [heart_tab k hk, hq]
  constructor
  · intro e
    apply UInt8.toNat_inj.1
    omega
  · intro e
    rw [e]

set_option maxRecDepth 100000 in
theorem specHeart_ok (h : Nat) (s : ByteArray) (w : World) (h4 : 4 ≤ h) (h1 : h ≤ 30) (hok : okQ (2 * (h : Int) + 1) s = true) (hz : s.size = (2 * h + 1) * (2 * h + 1)) :
    Calls Try.prog 18 #[sqV (2 * (h : Int) + 1) s] w fun e w' => e = .returned (.int .i64 (hv (hAt h (2 * (h : Int) + 1) s) 4 0)) ∧ Below w.heap.size w w' := by
  have hN : (2 * h + 1) * (2 * h + 1) ≤ 61 * 61 := Nat.mul_le_mul (by omega) (by omega)
  have hN1 : 9 * 9 ≤ (2 * h + 1) * (2 * h + 1) := Nat.mul_le_mul (by omega) (by omega)
  have HO : Hid (∀ w, _) := fun w => specOk_val (2 * (h : Int) + 1) s w (by unfold maxLen; omega)
  rw [hok] at HO
  have HT : Hid (∀ (k : Nat) w, k < 4 → Calls Try.prog 14 #[sqV (2 * (h : Int) + 1) s, .int .i64 k] w fun e w' => e = .returned (sqV (2 * (h : Int) + 1) (turnN (2 * (h : Int) + 1) s k)) ∧ Below w.heap.size w w') := by
    intro k w hk
    have := specTurnBy_val (2 * (h : Int) + 1) s k w (by simp only [Lit.wf, Bool.and_eq_true, decide_eq_true_eq]; rw [show IntKind.i64.min = -9223372036854775808 from by decide, show IntKind.i64.max = 9223372036854775807 from by decide]; omega) (by omega)
    have e : ((k : Int) % 4).toNat = k := by omega
    rw [e] at this
    exact this
  have HS : Hid (∀ (k : Nat) w, k < 25 → Calls Try.prog 39 #[.int .i64 k] w fun e w' => e = .returned (.tuple #[.int .i64 (wx k), .int .i64 (wy k)]) ∧ w' = w) := by
    intro k w hk
    have := specSpiral_val k w
    rw [spX_in k (by omega), spY_in k (by omega)] at this
    exact this
  have HI : Hid (∀ k, k < 25 → idx h (wx k) (wy k) < s.size) := fun k hk => by
    obtain ⟨a1, a2, a3, a4⟩ := dist_in (way_dist k h (by omega))
    rw [hz]; exact idx_lt a1 a2 a3 a4
  have HP : Hid (∀ (k : Nat) (w : World), k < 25 → _) := fun k w hk => place_val h (wx k) (wy k) w h1 (dist_in (way_dist k h (by omega))).1 (dist_in (way_dist k h (by omega))).2.1 (dist_in (way_dist k h (by omega))).2.2.1 (dist_in (way_dist k h (by omega))).2.2.2
  have HH : Hid (∀ (k : Nat) (w : World), k < 25 → _) := fun k w hk => heart_val (wx k) (wy k) w (dist_in (way_dist k 2 (by omega))).1 (dist_in (way_dist k 2 (by omega))).2.1 (dist_in (way_dist k 2 (by omega))).2.2.1 (dist_in (way_dist k 2 (by omega))).2.2.2
  have HG : Hid (∀ m k, k < 25 → (alongF h (turnN (2 * (h : Int) + 1) s m) k).toNat = 48 ∨ (alongF h (turnN (2 * (h : Int) + 1) s m) k).toNat = 49) := by
    intro m k hk
    obtain ⟨h', -, -, e, hz', hg'⟩ := ok_form (ok_turnN hok m)
    obtain rfl : h' = h := by omega
    obtain ⟨a1, a2, a3, a4⟩ := dist_in (way_dist k h' (by omega))
    exact sign_tb hz' hg' a1 a2 a3 a4
  have HZ : Hid (∀ m, (turnN (2 * (h : Int) + 1) s m).size = s.size) := fun m => turnN_size _ s m
  have hz3 : s.size ≤ 3721 := by omega
  unfold sqV at *
  have HAT : Hid (∀ m, hAt h (2 * (h : Int) + 1) s m = hOk h (turnN (2 * (h : Int) + 1) s m) 25) := fun m => rfl
  clear hok hz hN hN1 h4 h1
  generalize 2 * (h : Int) + 1 = n at *
  generalize hAt h n s = P at *
  generalize hV : hv P 4 0 = V at *
  have m0 : Box (w.alloc (.cells #[.int .i64 n, .string s] 25)) w.heap.size n s := Pk.heap_new w _
  have N := Pk.new_below w (.cells #[.int .i64 n, .string s] 25)
  go_enter Try.func18, Try.ntmps18
  go_wp2_with fail
  generalize w.alloc (.cells #[.int .i64 n, .string s] 25) = W at *
  refine (HO.out _).mono ?_
  rintro e w1 ⟨rfl, L1⟩
  replace m0 := m0.on L1
  replace N := Pk.join_below N L1
  have HV : Hid (V = hv P 4 0) := hV.symm
  clear hV L1
  go_wp2
  go_loopw [3] (fun i wr => ∃ k f : Nat, k + f = 4 ∧ i = .int .i64 k ∧ Box wr w.heap.size n s ∧ Hid (Below w.heap.size w wr) ∧ Hid (V = hv P f k)) (fun i _ => 4 - (intOf i).toNat)
  case atStart => exact ⟨0, 4, by omega, rfl, m0, N, HV⟩
  case round =>
    clear m0 N HV
    obtain ⟨m, f, hmf, rfl, m2, N2, HF⟩ := hrel
    by_cases hlt : m < 4
    · obtain ⟨f', rfl⟩ : ∃ f', f = f' + 1 := ⟨f - 1, by omega⟩
      have HK : Hid (∀ w, _) := fun w => HT.out m w hlt
      have HG2 : Hid (_) := HG.out m
      have HQ : Hid (_) := HAT.out m
      have hqz := HZ.out m
      generalize turnN n s m = q at *
      have c0 := m2.n
      have c1 := m2.s
      go_wp2_with fail
      refine (HK.out _).mono ?_
      rintro e w3 ⟨rfl, L3⟩
      have m4 := m2.on L3
      have N3 := Pk.join_below N2.out L3
      have x4 : Box (w3.alloc (.cells #[.int .i64 n, .string q] 25)) w3.heap.size n q := Pk.heap_new w3 _
      have K4 := Pk.new_below w3 (.cells #[.int .i64 n, .string q] 25)
      have m5 := m4.on K4
      have N5 := Pk.join_below N3 K4
      clear c0 c1 m2 m4 N2 N3 L3 K4
      go_wp2
      generalize w3.alloc (.cells #[.int .i64 n, .string q] 25) = w4 at *
      generalize w3.heap.size = g at *
      go_loopw [5, 6] (fun t i wr => ∃ k : Nat, k ≤ 25 ∧ i = .int .i64 k ∧ t = .bool (hOk h q k) ∧ Box wr w.heap.size n s ∧ Box wr g n q ∧ Hid (Below w.heap.size w wr)) (fun _ i _ => 25 - (intOf i).toNat)
      case atStart => exact ⟨0, by omega, rfl, rfl, m5, x4, N5⟩
      case round =>
        clear m5 x4 N5
        obtain ⟨k, hk, rfl, rfl, m6, x6, N6⟩ := hrel
        by_cases hk25 : k < 25
        · have J := HI.out k hk25
          rw [← hqz] at J
          have HST : Hid (_) := hOk_step h q k
          have HX : Hid (_) := hOk_sign hk25 _ (tb_at q _ J)
          have hsg := HG2.out k hk25
          rw [show alongF h q k = q[idx h (wx k) (wy k)] from tb_at q _ J] at hsg
          have X1 : Hid (∀ w, _) := fun w => HS.out k w hk25
          have X2 : Hid (∀ w, _) := fun w => HP.out k w hk25
          have X3 : Hid (∀ w, _) := fun w => HH.out k w hk25
          generalize heartI (wx k) (wy k) = hi at *
          generalize hOk h q k = o0 at *
          generalize idx h (wx k) (wy k) = i2 at *
          generalize wx k = x at *
          generalize wy k = y at *
          have hk1 : (0 : Int) ≤ (i2 : Int) := by omega
          have hk2 : (i2 : Int) < (q.size : Int) := by omega
          have z1 : IntKind.i64.wrap (q[i2].toNat : Int) = (q[i2].toNat : Int) := by rw [IntKind.wrap_i64]; omega
          have z2 : IntKind.i64.wrap ((q[i2].toNat : Int) - 48) = (q[i2].toNat : Int) - 48 := by rw [IntKind.wrap_i64]; omega
          have c0 := x6.n
          have c1 := x6.s
          go_wp2_with fail
          refine (X1.out _).mono ?_
          rintro e w5 ⟨rfl, rfl⟩
          by_cases hE : (q[i2].toNat : Int) - 48 = hi
          · have HO1 : Hid (hOk h q (k + 1) = o0) := by show _ = _; rw [HST.out, decide_eq_true (HX.out.1 hE), Bool.and_true]
            have hb : ((q[i2].toNat : Int) - 48 != hi) = false := by simp [hE]
            clear hE
            go_wp2
            go_region_held3 (fun w' => w'.cell? ⟨g, 0, none⟩ = some (.int .i64 n) ∧ w'.cell? ⟨g, 1, none⟩ = some (.string q)) (go_keep) (first
              | (go_at_call 28; refine (X2.out _).mono ?_; rintro e x2 ⟨rfl, rfl⟩)
              | (go_at_call 40; refine (X3.out _).mono ?_; rintro e x2 ⟨rfl, L7⟩; replace L7 : Below w5.heap.size w5 x2 := (by first | exact L7 | exact ((Below.refl _ _).drew).trans L7); have x7 := x6.on L7; have m7 := m6.on L7; have c0 := x7.n; have c1 := x7.s; have N7 := Pk.join_below N6.out L7))
            all_goals
              go_wp2
              go_roundw
              case rel => exact ⟨k + 1, by omega, by go_num, by rw [HO1.out], m7, x7, N7⟩
              case measure => simp [intOf]; omega
          · have HO1 : Hid (hOk h q (k + 1) = false) := by show _ = _; rw [HST.out, decide_eq_false (fun e => hE (HX.out.2 e)), Bool.and_false]
            have hb : ((q[i2].toNat : Int) - 48 != hi) = true := by simp [hE]
            clear hE
            go_wp2
            go_region_held3 (fun w' => w'.cell? ⟨g, 0, none⟩ = some (.int .i64 n) ∧ w'.cell? ⟨g, 1, none⟩ = some (.string q)) (go_keep) (first
              | (go_at_call 28; refine (X2.out _).mono ?_; rintro e x2 ⟨rfl, rfl⟩)
              | (go_at_call 40; refine (X3.out _).mono ?_; rintro e x2 ⟨rfl, L7⟩; replace L7 : Below w5.heap.size w5 x2 := (by first | exact L7 | exact ((Below.refl _ _).drew).trans L7); have x7 := x6.on L7; have m7 := m6.on L7; have c0 := x7.n; have c1 := x7.s; have N7 := Pk.join_below N6.out L7))
            all_goals
              go_wp2
              go_roundw
              case rel => exact ⟨k + 1, by omega, by go_num, by rw [HO1.out], m7, x7, N7⟩
              case measure => simp [intOf]; omega
        · obtain rfl : k = 25 := by omega
          cases hPm : hOk h q 25
          · have HY : Hid (V = hv P f' (m + 1)) := by show _ = _; rw [HF.out, hv, if_neg (by rw [HQ.out, hPm]; decide)]
            go_wp2
            go_roundw
            case rel => exact ⟨m + 1, f', by omega, by go_num, m6, N6, HY⟩
            case measure => simp [intOf]; omega
          · have HY : Hid (V = m) := by show _ = _; rw [HF.out, hv, if_pos (by rw [HQ.out, hPm])]
            go_wp2
            go_ret
            exact ⟨by rw [HY.out]; rfl, N6.out⟩
    · obtain rfl : m = 4 := by omega
      obtain rfl : f = 0 := by omega
      have HY : Hid (V = -1) := HF
      go_wp2
      go_ret
      exact ⟨by rw [HY.out]; rfl, N2.out⟩

theorem implHeart_val (n : Int) (s : ByteArray) (w : World) (hs : s.size ≤ maxLen) :
    Calls Try.prog 19 #[sqV n s] w fun e w' => e = .returned (.int .i64 (heartV n s)) ∧ Below w.heap.size w w' := by
  cases hok : okQ n s
  · rw [heartV_no hok]
    have HO : Hid (∀ w, _) := fun w => implOk_val n s w hs
    rw [hok] at HO
    clear hok hs
    unfold sqV at *
    have N := Pk.new_below w (.cells #[.int .i64 n, .string s] 25)
    go_enter Try.func19, Try.ntmps19
    go_wp2_with fail
    refine (HO.out _).mono ?_
    rintro e w1 ⟨rfl, L1⟩
    go_wp2
    go_ret
    exact ⟨rfl, Pk.join_below N L1⟩
  · obtain ⟨h, h4, h1, rfl, hz, hg⟩ := ok_form hok
    rw [heartV_ok hok]
    exact implHeart_ok h s w h4 h1 hok hz

theorem specHeart_val (n : Int) (s : ByteArray) (w : World) (hs : s.size ≤ maxLen) :
    Calls Try.prog 18 #[sqV n s] w fun e w' => e = .returned (.int .i64 (heartV n s)) ∧ Below w.heap.size w w' := by
  cases hok : okQ n s
  · rw [heartV_no hok]
    have HO : Hid (∀ w, _) := fun w => specOk_val n s w hs
    rw [hok] at HO
    clear hok hs
    unfold sqV at *
    have N := Pk.new_below w (.cells #[.int .i64 n, .string s] 25)
    go_enter Try.func18, Try.ntmps18
    go_wp2_with fail
    refine (HO.out _).mono ?_
    rintro e w1 ⟨rfl, L1⟩
    go_wp2
    go_ret
    exact ⟨rfl, Pk.join_below N L1⟩
  · obtain ⟨h, h4, h1, rfl, hz, hg⟩ := ok_form hok
    rw [heartV_ok hok]
    exact specHeart_ok h s w h4 h1 hok hz


end Sq
end Go.Proofs.Ytkhibgicejcmlam

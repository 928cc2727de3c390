/- Contract of the model's Turn. -/
import Derived.Test.YtkhibgicejcmlamSqTurn
namespace Go.Proofs.Ytkhibgicejcmlam
namespace Sq
open Go.ChangeShapes Go.WideShapes Go.ChangeAt Go.RowKit
set_option linter.unusedSimpArgs false
set_option linter.unusedVariables false

/-- The bytes of a text in new memory. -/
theorem to_bytes (w : World) (s : ByteArray) : ∃ (g cap : Nat) (w1 : World), (convert 9 50 (.string s)).run Try.prog w = .ok (.slice (some ⟨g, 0, none⟩) s.size cap) w1 ∧ w.heap.size ≤ g ∧ g < w1.heap.size ∧ Below w.heap.size w w1 ∧ Cl w1 g s.size (fun j => .int .u8 ((tb s j).toNat : Int)) := by
  refine ⟨_, _, _, run_bytes_of_string w 9 50 5 s Try.underlying9 Try.underlying50 Try.underlying5, Nat.le_refl _, by simp, ((Below.refl _ _).drew).alloc (Nat.le_refl _) _, ?_⟩
  intro j hj
  generalize grownCap w s.size 0 5 = cp
  have hd : w.drew.heap.size = w.heap.size := rfl
  constructor
  · rw [← hd, World.cell?_alloc_mark, bytesRow_at s _ j hj]
    show _ = some (Value.int .u8 ((s.data.toList.getD j 0).toNat : Int))
    rw [getD_at s j hj]
    rfl
  · have hh : (w.drew.alloc (.cells (bytesRow s cp) 5 ((bytesRow s cp).size, (bytesRow s cp).size + 1))).heap[w.heap.size]? = some (.cells (bytesRow s cp) 5 ((bytesRow s cp).size, (bytesRow s cp).size + 1)) := (MapKept.heap_alloc w.drew _).1
    have hsz : j < (bytesRow s cp).size := by
      have h := bytesRow_at s cp j hj
      exact (Array.getElem?_eq_some_iff.1 h).1
    unfold World.frozen?
    rw [hh]
    simp
    omega

set_option maxRecDepth 100000 in
theorem specTurn_ok (h : Nat) (s : ByteArray) (w : World) (hs : s.size ≤ maxLen) (h4 : 4 ≤ h) (h1 : h ≤ 30) (hok : okQ (2 * (h : Int) + 1) s = true) (hz : s.size = (2 * h + 1) * (2 * h + 1)) :
    Calls Try.prog 10 #[sqV (2 * (h : Int) + 1) s] w fun e w' => e = .returned (sqV (2 * (h : Int) + 1) (turnS h s)) ∧ Below w.heap.size w w' := by
  have HO : Hid (∀ w, _) := fun w => specOk_val (2 * (h : Int) + 1) s w hs
  rw [hok] at HO
  have ht := half_is h
  have HP2 : Hid (∀ (x y : Int) (w : World), -(h : Int) ≤ x → x ≤ h → -(h : Int) ≤ y → y ≤ h → _) := fun x y w a1 a2 a3 a4 => place_val h x y w h1 a1 a2 a3 a4
  have HP3 : Hid (∀ (x y : Int) (w : World), -(h : Int) ≤ x → x ≤ h → -(h : Int) ≤ y → y ≤ h → _) := fun x y w a1 a2 a3 a4 => place_val h (-y) x w h1 (by omega) (by omega) a1 a2
  have HI : Hid (∀ (x y : Int), -(h : Int) ≤ x → x ≤ h → -(h : Int) ≤ y → y ≤ h → idx h x y < s.size) := fun x y a1 a2 a3 a4 => by rw [hz]; exact idx_lt a1 a2 a3 a4
  have HST : Hid (∀ (x y : Int), -(h : Int) ≤ x → x ≤ h → -(h : Int) ≤ y → y ≤ h → ∀ j, j < s.size → tS h s (idx h (x + 1) y) j = if j = idx h (-y) x then .int .u8 ((tb s (idx h x y)).toNat : Int) else tS h s (idx h x y) j) := fun x y a1 a2 a3 a4 j hj => tS_step h s x y a1 a2 a3 a4 j (by omega)
  have HEN : Hid (∀ j, j < s.size → tS h s (idx h (-(h : Int)) ((h : Int) + 1)) j = .int .u8 ((turnF h s j).toNat : Int)) := fun j hj => by
    rw [idx_last]
    exact tS_end h s j (by omega)
  have HT : Hid (turnS h s = strT s.size (turnF h s)) := by show _ = _; unfold turnS; rw [hz]
  have hN : (2 * h + 1) * (2 * h + 1) ≤ 61 * 61 := Nat.mul_le_mul (by omega) (by omega)
  have hc1 : s.size ≤ 3721 := by omega
  clear hs hok hz hN h4
  generalize turnS h s = T at *
  unfold sqV at *
  generalize 2 * (h : Int) + 1 = n at *
  obtain ⟨m0, m1, N⟩ := box2 w n s
  go_enter Try.func10, Try.ntmps10
  go_wp2_with fail
  generalize (w.alloc (.cells #[.int .i64 n, .string s] 25)).alloc (.cells #[.int .i64 0, .string ⟨#[]⟩] 25) = W at *
  refine (HO.out _).mono ?_
  rintro e w1 ⟨rfl, L1⟩
  replace m0 := m0.on L1
  replace m1 := m1.on L1
  replace N := Pk.join_below N L1
  have hb : w.heap.size + 1 < w1.heap.size := Pk.lt_of m1
  have c1 := m0.s
  obtain ⟨g, cap, w3, hcv, hg1, hg2, L3, C3⟩ := to_bytes w1 s
  have m2 := m0.on L3
  have m3 := m1.on L3
  have N3 := Pk.join_below N L3
  have c0 := m2.n
  have R0 : Run w.heap.size w w3 w3 g s.size (tS h s (idx h (-(h : Int)) (-(h : Int)))) := Run.start N3 hg2 (by omega) (C3.congr (fun j _ => by rw [idx_first]; exact tS_zero h s j))
  have hbg : w.heap.size ≠ g := by omega
  have hrg : w.heap.size + 1 ≠ g := by omega
  clear m0 m1 N L1 L3 C3
  go_wp2
  clear c1 c0 hcv
  go_loopw [5] (fun i wr => ∃ y : Int, -(h : Int) ≤ y ∧ y ≤ (h : Int) + 1 ∧ i = .int .i64 y ∧ Run w.heap.size w w3 wr g s.size (tS h s (idx h (-(h : Int)) y))) (fun i _ => ((h : Int) + 1 - intOf i).toNat)
  case atStart => exact ⟨-(h : Int), by omega, by omega, rfl, R0⟩
  case round =>
    obtain ⟨y, hy1, hy2, rfl, R⟩ := hrel
    by_cases hlt : y ≤ h
    · go_wp2
      go_loopw [6] (fun i wr => ∃ x : Int, -(h : Int) ≤ x ∧ x ≤ (h : Int) + 1 ∧ i = .int .i64 x ∧ Run w.heap.size w w3 wr g s.size (tS h s (idx h x y))) (fun i _ => ((h : Int) + 1 - intOf i).toNat)
      case atStart => exact ⟨-(h : Int), by omega, by omega, rfl, R⟩
      case round =>
        clear R
        obtain ⟨x, hx1, hx2, rfl, R⟩ := hrel
        by_cases hlx : x ≤ h
        · have M : Box wr w.heap.size n s := R.keep m2 hbg
          have J2 := HI.out x y hx1 hlx hy1 hlt
          have J3 := HI.out (-y) x (by omega) (by omega) hx1 hlx
          have X2 : Hid (∀ w, _) := fun w => HP2.out x y w hx1 hlx hy1 hlt
          have X3 : Hid (∀ w, _) := fun w => HP3.out x y w hx1 hlx hy1 hlt
          have XS : Hid (_) := HST.out x y hx1 hlx hy1 hlt
          have X4 := getD_at s _ J2
          rw [show s.data.toList.getD (idx h x y) 0 = tb s (idx h x y) from rfl] at X4
          rw [X4] at XS
          clear X4
          generalize idx h x y = i2 at *
          generalize idx h (-y) x = i3 at *
          have hk1 : (0 : Int) ≤ (i2 : Int) := by omega
          have hk2 : (i2 : Int) < (s.size : Int) := by omega
          have hk3 : (0 : Int) ≤ (i3 : Int) := by omega
          have hk4 : (i3 : Int) < (s.size : Int) := by omega
          have zw : IntKind.i64.wrap (-y) = -y := by rw [IntKind.wrap_i64]; omega
          have z1 : ¬ g = w.heap.size := fun h => hbg h.symm
          have z2 : ¬ w.heap.size = g := hbg
          have c0 := M.n
          have c1 := M.s
          have r0 := (R.row i3 J3).1
          have r1 := (R.row i3 J3).2
          go_wp2
          go_region_held3 (fun w' => w'.cell? ⟨w.heap.size, 0, none⟩ = some (.int .i64 n) ∧ w'.cell? ⟨w.heap.size, 1, none⟩ = some (.string s)) (go_keep) (first
            | (go_at_call 28; (first | (with_reducible refine (X2.out _).mono ?_) | (with_reducible refine (X3.out _).mono ?_)); rintro e x2 ⟨rfl, rfl⟩))
          all_goals
            go_wp2
            go_roundw
            case rel => exact ⟨x + 1, by omega, by omega, rfl, by first | exact R.set i3 _ XS.out | exact R.drew.set i3 _ XS.out | exact (R.set i3 _ XS.out).drew⟩
            case measure => simp [intOf]; omega
        · obtain rfl : x = (h : Int) + 1 := by omega
          rw [idx_row h y hy1] at R
          go_wp2
          go_roundw
          case rel => exact ⟨y + 1, by omega, by omega, rfl, R⟩
          case measure => simp [intOf]; omega
    · obtain rfl : y = (h : Int) + 1 := by omega
      have hcv := R.row.text (cap := cap) HEN.out
      rw [← HT.out] at hcv
      have M : Box wr w.heap.size n s := R.keep m2 hbg
      have M' : Box wr (w.heap.size + 1) 0 ⟨#[]⟩ := R.keep m3 hrg
      have c0 := M.n
      have d0 := M'.n
      have d1 := M'.s
      have f0 := M'.f 0
      have f1 := M'.f 1
      have LL := R.below
      go_wp2
      refine bodyPost_ret (v := .agg #[.int .i64 n, .string T]) (by simp [results, Try.results10, go_sem, d0, d1]) rfl ?_
      exact ⟨rfl, (LL.setCell (Nat.le_succ _) _).setCell (Nat.le_succ _) _⟩

theorem specTurn_val (n : Int) (s : ByteArray) (w : World) (hs : s.size ≤ 1048576) :
    Calls Try.prog 10 #[sqV n s] w fun e w' => e = .returned (sqV n (turnV n s)) ∧ Below w.heap.size w w' := by
  cases hok : okQ n s
  · rw [turnV_no hok]
    have HO : Hid (∀ w, _) := fun w => specOk_val n s w (by unfold maxLen; omega)
    rw [hok] at HO
    clear hok hs
    unfold sqV at *
    obtain ⟨m0, m1, N⟩ := box2 w n s
    go_enter Try.func10, Try.ntmps10
    go_wp2_with fail
    generalize (w.alloc (.cells #[.int .i64 n, .string s] 25)).alloc (.cells #[.int .i64 0, .string ⟨#[]⟩] 25) = W at *
    refine (HO.out _).mono ?_
    rintro e w1 ⟨rfl, L1⟩
    replace m0 := m0.on L1
    replace m1 := m1.on L1
    replace N := Pk.join_below N L1
    have c0 := m0.n
    have c1 := m0.s
    have d0 := m1.n
    have d1 := m1.s
    have f0 := m1.f 0
    have f1 := m1.f 1
    go_wp2
    refine bodyPost_ret (v := .agg #[.int .i64 n, .string s]) (by simp [results, Try.results10, go_sem, d0, d1]) rfl ?_
    exact ⟨rfl, (N.setCell (Nat.le_succ _) _).setCell (Nat.le_succ _) _⟩
  · obtain ⟨h, h4, h1, rfl, hz, hg⟩ := ok_form hok
    rw [turnV_ok hok]
    exact specTurn_ok h s w (by unfold maxLen; omega) h4 h1 hok hz

end Sq
end Go.Proofs.Ytkhibgicejcmlam

/- Contracts of DarkAt, of the program and of its model. -/
import Derived.Test.YtkhibgicejcmlacSqIdx
namespace Go.Proofs.Ytkhibgicejcmlac
namespace Sq
open Go.ChangeShapes Go.WideShapes Go.ChangeAt Go.RowKit
open Pk (Drawn)
set_option linter.unusedSimpArgs false
set_option linter.unusedVariables false

set_option maxRecDepth 100000 in
theorem dkI_no (n : Int) (s : ByteArray) (x y : Int) (w : World) (hn : (Lit.int .i64 n).wf = true) (hs : s.size ≤ maxLen) (h : okQ n s = false ∨ inB x (-(Int.tdiv n 2)) (Int.tdiv n 2) = false ∨ inB y (-(Int.tdiv n 2)) (Int.tdiv n 2) = false) :
    Calls Try.prog 19 #[sqV n s, .int .i64 x, .int .i64 y] w fun e w' => e = .returned (.int .i64 (-1)) ∧ Below w.heap.size w w' := by
  have HO : Hid (∀ w, _) := fun w => implOk_val n s w hs
  have HX : Hid (∀ w, _) := fun w => between_val x (-(Int.tdiv n 2)) (Int.tdiv n 2) w
  have HY : Hid (∀ w, _) := fun w => between_val y (-(Int.tdiv n 2)) (Int.tdiv n 2) w
  obtain ⟨b1, b2⟩ := wf_half hn
  clear hs hn
  unfold sqV at *
  have N := Pk.new_below w (.cells #[.int .i64 n, .string s] 29)
  generalize okQ n s = ok at *
  generalize inB x (-(Int.tdiv n 2)) (Int.tdiv n 2) = bx at *
  generalize inB y (-(Int.tdiv n 2)) (Int.tdiv n 2) = by' at *
  generalize ht : Int.tdiv n 2 = q at *
  go_enter Try.func19, Try.ntmps19
  go_wp2_with fail
  refine (HO.out _).mono ?_
  rintro e w1 ⟨rfl, L1⟩
  have L2 := Pk.join_below N L1
  cases ok
  · go_wp2
    go_ret
    exact ⟨rfl, L2⟩
  · go_wp2_with fail
    refine (HX.out _).mono ?_
    rintro e w2 ⟨rfl, rfl⟩
    cases bx
    · go_wp2
      go_ret
      exact ⟨rfl, L2⟩
    · go_wp2_with fail
      refine (HY.out _).mono ?_
      rintro e w2 ⟨rfl, rfl⟩
      cases by'
      · go_wp2
        go_ret
        exact ⟨rfl, L2⟩
      · simp at h

set_option maxRecDepth 100000 in
theorem dkI_yes (h : Nat) (s : ByteArray) (x y : Int) (w : World) (hs : s.size ≤ maxLen) (h1 : h ≤ 30) (hok : okQ (2 * (h : Int) + 1) s = true) (hx : inB x (-(h : Int)) h = true) (hy : inB y (-(h : Int)) h = true) (hi : idx h x y < s.size) (hb : s[idx h x y].toNat = 48 ∨ s[idx h x y].toNat = 49) :
    Calls Try.prog 19 #[sqV (2 * (h : Int) + 1) s, .int .i64 x, .int .i64 y] w fun e w' => e = .returned (.int .i64 ((s[idx h x y].toNat : Int) - 48)) ∧ Below w.heap.size w w' := by
  have HO : Hid (∀ w, _) := fun w => implOk_val (2 * (h : Int) + 1) s w hs
  have HX : Hid (∀ w, _) := fun w => between_val x (-(h : Int)) h w
  have HY : Hid (∀ w, _) := fun w => between_val y (-(h : Int)) h w
  rw [hok] at HO
  rw [hx] at HX
  rw [hy] at HY
  have kx := of_decide_eq_true hx
  have ky := of_decide_eq_true hy
  have HP : Hid (∀ w, _) := fun w => index_val h s (E x) (E y) x y w (E_int (by omega) (by omega)) (E_int (by omega) (by omega)) h1 kx.1 kx.2 ky.1 ky.2
  have ht := half_is h
  clear hok hx hy hs
  unfold sqV at *
  generalize 2 * (h : Int) + 1 = n at *
  have N := Pk.new_below w (.cells #[.int .i64 n, .string s] 29)
  have m0 := Pk.heap_new w (.cells #[.int .i64 n, .string s] 29)
  generalize idx h x y = k at *
  go_enter Try.func19, Try.ntmps19
  go_wp2_with fail
  refine (HO.out _).mono ?_
  rintro e w1 ⟨rfl, L1⟩
  have m1 := Pk.kept L1 (Pk.lt_of m0) m0
  have L2 := Pk.join_below N L1
  clear N L1 m0
  go_wp2_with fail
  refine (HX.out _).mono ?_
  rintro e w2 ⟨rfl, rfl⟩
  go_wp2_with fail
  refine (HY.out _).mono ?_
  rintro e w2 ⟨rfl, rfl⟩
  have c0 : w2.cell? ⟨w.heap.size, 0, none⟩ = some (.int .i64 n) := Pk.cell_at m1 0
  have c1 : w2.cell? ⟨w.heap.size, 1, none⟩ = some (.string s) := Pk.cell_at m1 1
  have hk1 : (0 : Int) ≤ (k : Int) := by omega
  have hk2 : (k : Int) < (s.size : Int) := by omega
  have z1 : IntKind.i64.wrap (s[k].toNat : Int) = (s[k].toNat : Int) := by rw [IntKind.wrap_i64]; omega
  have z2 : IntKind.i64.wrap ((s[k].toNat : Int) - 48) = (s[k].toNat : Int) - 48 := by rw [IntKind.wrap_i64]; omega
  have z3 : IntKind.u8.wrap ((s[k].toNat : Int) - 48) = (s[k].toNat : Int) - 48 := by rw [IntKind.wrap_u8]; omega
  go_wp2
  go_region_held3 (fun w' => w'.cell? ⟨w.heap.size, 0, none⟩ = some (.int .i64 n) ∧ w'.cell? ⟨w.heap.size, 1, none⟩ = some (.string s)) (go_keep) (first
    | (go_at_call 42; refine (placeOf_val _ _ _).mono ?_; rintro e x1 ⟨rfl, rfl⟩)
    | (go_at_call 40; refine (HP.out _).mono ?_; rintro e x2 ⟨rfl, L3⟩; have L3' : Below w2.heap.size w2 x2 := (by first | exact L3 | exact ((Below.refl _ _).drew).trans L3); have m2 := Pk.kept L3' (Pk.lt_of m1) m1; have L4 := Pk.join_below L2 L3'; have d0 : x2.cell? ⟨w.heap.size, 0, none⟩ = some (.int .i64 n) := Pk.cell_at m2 0; have d1 : x2.cell? ⟨w.heap.size, 1, none⟩ = some (.string s) := Pk.cell_at m2 1))
  all_goals
    go_wp2
    go_ret
    exact ⟨rfl, L4⟩

theorem dkI_val (n : Int) (s : ByteArray) (x y : Int) (w : World) (hn : (Lit.int .i64 n).wf = true) (hs : s.size ≤ maxLen) :
    Calls Try.prog 19 #[sqV n s, .int .i64 x, .int .i64 y] w fun e w' => e = .returned (.int .i64 (dkV n s x y)) ∧ Below w.heap.size w w' := by
  cases hok : okQ n s
  · rw [dk_no (.inl hok)]
    exact dkI_no n s x y w hn hs (.inl hok)
  · obtain ⟨h, h4, h1, rfl, hz, hg⟩ := ok_form hok
    cases hx : inB x (-(h : Int)) h
    · rw [dk_no (.inr (.inl (by rw [half_is]; exact hx)))]
      exact dkI_no _ s x y w hn hs (.inr (.inl (by rw [half_is]; exact hx)))
    · cases hy : inB y (-(h : Int)) h
      · rw [dk_no (.inr (.inr (by rw [half_is]; exact hy)))]
        exact dkI_no _ s x y w hn hs (.inr (.inr (by rw [half_is]; exact hy)))
      · have kx := of_decide_eq_true hx
        have ky := of_decide_eq_true hy
        have hi : idx h x y < s.size := by rw [hz]; exact idx_lt kx.1 kx.2 ky.1 ky.2
        rw [dk_yes hok hx hy hi]
        exact dkI_yes h s x y w hs h1 hok hx hy hi (sign_at hg _ hi)

end Sq
end Go.Proofs.Ytkhibgicejcmlac

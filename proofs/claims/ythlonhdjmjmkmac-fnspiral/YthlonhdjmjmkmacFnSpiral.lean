/- For every code the law of the way around the middle answers true: the program's Spiral is its model's, it goes one field at a time, and a field's number lies between the squares of its ring. No condition. -/
import Derived.Test.YthlonhdjmjmkmacErrs
import Derived.ShutString
import Derived.Lib.SmallJoins
import Derived.Test.YthlonhdjmjmkmacCurSq
namespace Go.Proofs.Ythlonhdjmjmkmac.fnSpiral
open Go.ChangeShapes Go.WideShapes Go.ChangeAt Go.RowKit Go.Joins
open Go.ChangeMaps (open_string shut_string)
set_option linter.unusedVariables false

def IsRow (k : IntKind) (w : World) (a : Option Addr) (len cap : Nat) (zs : List Int) : Prop :=
  (a = none ∧ len = 0 ∧ cap = 0 ∧ zs = []) ∨
  ∃ x, a = some x ∧ len ≤ cap ∧ cap ≤ maxLen ∧ zs.length = cap ∧ (∀ i, i < zs.length → w.cell? (x.add i) = some (.int k (zs.getD i 0))) ∧ ∀ n ∈ zs, (Lit.int k n).wf = true

set_option maxRecDepth 100000 in
set_option maxHeartbeats 4000000 in
theorem walk (a0 : Option Addr) (len0 cap0 : Nat) (z0 : List Int) (w : World) (w0 : IsRow .u8 w a0 len0 cap0 z0)  :
    Calls Try.prog 3 #[.slice a0 len0 cap0] w fun e w' => e = .returned (.bool true) ∧ Below w.heap.size w w' := by
  by_cases hb : len0 ≤ 1048576
  · have B := Cur.bytes_of w a0 len0 cap0 z0 w0
    clear w0
    go_enter Try.func3, Try.ntmps3
    go_wp2_with fail
    refine (Cur.big_no a0 len0 cap0 _ hb).mono ?_
    rintro e w1 ⟨rfl, rfl⟩
    go_wp2_with fail
    refine (Sq.drawSpiral _ a0 len0 cap0 hb B).mono ?_
    rintro e w2 ⟨⟨k, rfl, hk1, hk2⟩, L2⟩
    clear B
    by_cases hin : 0 ≤ k ∧ k ≤ 3720
    · obtain ⟨n, rfl⟩ : ∃ n : Nat, k = n := ⟨k.toNat, by omega⟩
      have hn : n ≤ 3720 := by omega
      clear hin hk1 hk2
      have HA : Hid (∀ w, _) := fun w => Sq.implSpiral_val n w
      have HS : Hid (∀ w, _) := fun w => Sq.specSpiral_val n w
      rw [Sq.spX_in n hn, Sq.spY_in n hn] at HA HS
      have HN : Hid (∀ w, Calls Try.prog 9 #[.int .i64 ((n : Int) + 1)] w fun e w' => n < 3720 → e = .returned (.tuple #[.int .i64 (Sq.wx (n + 1)), .int .i64 (Sq.wy (n + 1))]) ∧ Below w.heap.size w w') := by
        intro w
        refine (Sq.implSpiral_val _ w).mono ?_
        rintro e w' ⟨rfl, L⟩ h
        have := Sq.spX_in (n + 1) (by omega)
        have h2 := Sq.spY_in (n + 1) (by omega)
        have e1 : ((n + 1 : Nat) : Int) = (n : Int) + 1 := by omega
        rw [e1] at this h2
        rw [this, h2]
        exact ⟨rfl, L⟩
      obtain ⟨bx1, bx2, by1, by2⟩ := Sq.way_bd n hn
      obtain ⟨a, b, ea, eb, p1, p2, p3, p4, p5, p6, p7, p8, p9⟩ := Sq.way_one n
      have HW : Hid (_) := Sq.way_in n
      have HM : Hid (_) := Sq.mx_end (Sq.wx n) (Sq.wy n)
      generalize Sq.wx (n + 1) = u at *
      generalize Sq.wy (n + 1) = v at *
      have HD : Hid (Sq.dist (Sq.wx n) (Sq.wy n) ≤ 30) := Sq.way_dist n 30 (by omega)
      generalize Sq.wx n = x at *
      generalize Sq.wy n = y at *
      generalize Sq.dist x y = D at *
      have hu1 : -31 ≤ u ∧ u ≤ 31 := by omega
      have hv1 : -31 ≤ v ∧ v ≤ 31 := by omega
      go_wp2_with fail
      refine (HA.out _).mono ?_
      rintro e w3 ⟨rfl, L3⟩
      have L4 := Cur.below_join L2 L3
      clear L2 L3
      go_wp2_with fail
      refine (HS.out _).mono ?_
      rintro e w4 ⟨rfl, rfl⟩
      by_cases hl : n < 3720
      · go_wp2_with fail
        refine (HN.out _).mono ?_
        rintro e w5 h5
        obtain ⟨rfl, L5⟩ := h5 hl
        have L6 := Cur.below_join L4 L5
        clear L4 L5
        have HC : Hid (∀ k, k < 3 → _) := fun k hk => Sq.lv_cell (w := w5) (x := x) (y := y) (t := 3) k hk
        have HB : Hid (∀ k, _) := fun k => Sq.lv_bd bx1 bx2 by1 by2 k
        have LL := L6.alloc L6.size (.cells #[.int .i64 (-x), .int .i64 y, .int .i64 (-y)] 3)
        go_wp2
        generalize w5.alloc (.cells #[.int .i64 (-x), .int .i64 y, .int .i64 (-y)] 3) = W at *
        generalize w5.heap.size = g at *
        go_loop [10, 75] (fun d i => ∃ (k : Nat) (e : Int), k ≤ 3 ∧ -30 ≤ e ∧ e ≤ 30 ∧ i = .int .i64 k ∧ d = .int .i64 e ∧ Hid (e = Sq.mx x y k)) (fun _ i => 3 - (intOf i).toNat)
        case atStart => exact ⟨0, x, by omega, bx1, bx2, rfl, rfl, rfl⟩
        case round =>
          obtain ⟨k, e, hk, he1, he2, rfl, rfl, H⟩ := hrel
          by_cases hk3 : k < 3
          · have hc := HC.out k hk3
            obtain ⟨l1, l2⟩ := HB.out k
            have HX : Hid (_) := Sq.mx_step x y k hk3
            rw [← H.out] at HX
            generalize Sq.lv x y k = q at *
            by_cases hgt : e < q
            · go_wp2
              go_round
              case rel => exact ⟨k + 1, q, by omega, l1, l2, by go_num, rfl, by show _ = _; rw [HX.out]; omega⟩
              case measure => simp [intOf]; omega
            · go_wp2
              go_round
              case rel => exact ⟨k + 1, e, by omega, he1, he2, by go_num, rfl, by show _ = _; rw [HX.out]; omega⟩
              case measure => simp [intOf]; omega
          · obtain rfl : k = 3 := by omega
            have hE := H.out.trans HM.out
            subst hE
            obtain ⟨A, hA, hA1, hA2⟩ := Sq.up_sq D n HW.out.1 HD.out
            by_cases h0 : D = 0
            · subst h0
              go_wp2
              all_goals go_ret
              all_goals exact ⟨rfl, LL⟩
            · obtain ⟨C, hC, hC1, hC2⟩ := Sq.lo_sq D n (by omega) HD.out (by have := HW.out.2; omega)
              have hz : ((D : Int) == 0) = false := by simp; omega
              go_wp2
              go_ret
              exact ⟨rfl, LL⟩
      · have hl2 : ¬ ((n : Int) < 3720) := by omega
        have HC : Hid (∀ k, k < 3 → _) := fun k hk => Sq.lv_cell (w := w4) (x := x) (y := y) (t := 3) k hk
        have HB : Hid (∀ k, _) := fun k => Sq.lv_bd bx1 bx2 by1 by2 k
        have LL := L4.alloc L4.size (.cells #[.int .i64 (-x), .int .i64 y, .int .i64 (-y)] 3)
        go_wp2
        generalize w4.alloc (.cells #[.int .i64 (-x), .int .i64 y, .int .i64 (-y)] 3) = W at *
        generalize w4.heap.size = g at *
        go_loop [10, 75] (fun d i => ∃ (k : Nat) (e : Int), k ≤ 3 ∧ -30 ≤ e ∧ e ≤ 30 ∧ i = .int .i64 k ∧ d = .int .i64 e ∧ Hid (e = Sq.mx x y k)) (fun _ i => 3 - (intOf i).toNat)
        case atStart => exact ⟨0, x, by omega, bx1, bx2, rfl, rfl, rfl⟩
        case round =>
          obtain ⟨k, e, hk, he1, he2, rfl, rfl, H⟩ := hrel
          by_cases hk3 : k < 3
          · have hc := HC.out k hk3
            obtain ⟨l1, l2⟩ := HB.out k
            have HX : Hid (_) := Sq.mx_step x y k hk3
            rw [← H.out] at HX
            generalize Sq.lv x y k = q at *
            by_cases hgt : e < q
            · go_wp2
              go_round
              case rel => exact ⟨k + 1, q, by omega, l1, l2, by go_num, rfl, by show _ = _; rw [HX.out]; omega⟩
              case measure => simp [intOf]; omega
            · go_wp2
              go_round
              case rel => exact ⟨k + 1, e, by omega, he1, he2, by go_num, rfl, by show _ = _; rw [HX.out]; omega⟩
              case measure => simp [intOf]; omega
          · obtain rfl : k = 3 := by omega
            have hE := H.out.trans HM.out
            subst hE
            obtain ⟨A, hA, hA1, hA2⟩ := Sq.up_sq D n HW.out.1 HD.out
            by_cases h0 : D = 0
            · subst h0
              go_wp2
              all_goals go_ret
              all_goals exact ⟨rfl, LL⟩
            · obtain ⟨C, hC, hC1, hC2⟩ := Sq.lo_sq D n (by omega) HD.out (by have := HW.out.2; omega)
              have hz : ((D : Int) == 0) = false := by simp; omega
              go_wp2
              go_ret
              exact ⟨rfl, LL⟩
    · have HA : Hid (∀ w, _) := fun w => Sq.implSpiral_val k w
      have HS : Hid (∀ w, _) := fun w => Sq.specSpiral_val k w
      have e1 : Sq.spX k = -1000 := by unfold Sq.spX; rw [if_neg hin]
      have e2 : Sq.spY k = -1000 := by unfold Sq.spY; rw [if_neg hin]
      rw [e1, e2] at HA HS
      clear e1 e2
      by_cases hneg : k < 0
      · go_wp2_with fail
        refine (HA.out _).mono ?_
        rintro e w3 ⟨rfl, L3⟩
        have L4 := Cur.below_join L2 L3
        go_wp2_with fail
        refine (HS.out _).mono ?_
        rintro e w4 ⟨rfl, rfl⟩
        go_wp2
        go_ret
        exact ⟨rfl, L4⟩
      · have hgt : 3720 < k := by omega
        go_wp2_with fail
        refine (HA.out _).mono ?_
        rintro e w3 ⟨rfl, L3⟩
        have L4 := Cur.below_join L2 L3
        go_wp2_with fail
        refine (HS.out _).mono ?_
        rintro e w4 ⟨rfl, rfl⟩
        go_wp2
        go_ret
        exact ⟨rfl, L4⟩
  · go_enter Try.func3, Try.ntmps3
    go_wp2_with fail
    refine (Cur.big_yes a0 len0 cap0 _ hb).mono ?_
    rintro e w1 ⟨rfl, rfl⟩
    go_wp2
    go_ret
    exact ⟨rfl, Below.refl _ _⟩

set_option maxRecDepth 100000 in
theorem contract (H : Type) (enc : TypeId × Value → H) (W : World) (base : Nat) (args : Array Value) (ds gs : List (DataW H)) (before : List MemPlace)
    (hval : ∀ (j : Nat) t v, Try.f3.params[j]? = some t → args[j]? = some v → Value.okWide Try.prog W .any base t v)
    (hW : DataW.Whole enc Try.prog Try.f3.params.toList Rows.fnSpiralSpec.vars false W args.toList ds gs before) :
    Calls Try.prog 3 args W fun e W' => ∃ v, e = .returned v ∧ Rows.fnSpiralSpec.post enc Try.prog Try.f3 false true false false W args v W' := by
  have hW' := hW
  obtain ⟨p, q, hA0, hV, rfl, hfz, hnd⟩ := hW
  have hA : DataW.TrodAll enc Try.prog W 0 (fun _ => true) true Try.f3.params.toList args.toList ds p := hA0
  rw [Try.params3] at hA hval
  obtain ⟨v0, vs0, d0, ds0, p0, q0, hargs, rfl, rfl, h0, r0⟩ := trodAll_cons hA
  obtain ⟨rfl, rfl, rfl⟩ := trodAll_nil r0
  obtain rfl : args = #[v0] := by cases args; simp_all
  obtain ⟨rfl, rfl⟩ := trodVars_none hV
  have k0 := h0
  have lt0 : ∀ x ∈ p0, x.block < W.heap.size := by obtain ⟨m, hm⟩ := k0; exact DataW.trod_lt m _ _ _ hm
  obtain ⟨a0, len0, cap0, rfl⟩ := okWide_slice Try.underlying22 (hval 0 22 v0 rfl rfl)
  obtain ⟨z0, w0⟩ : ∃ zs, IsRow .u8 W a0 len0 cap0 zs := by
    obtain ⟨fuel, hf⟩ := h0
    rcases open_ints Try.underlying22 Try.underlying5 (by kernel_rfl) hf with ⟨hcs, _⟩ | ⟨x, l, c, zs, hcs, _, hl, hm, hz, _, hcell, hwz⟩
    · simp [Value.cells] at hcs
      obtain ⟨rfl, rfl, rfl⟩ := hcs
      exact ⟨[], .inl ⟨rfl, rfl, rfl, rfl⟩⟩
    · simp [Value.cells] at hcs
      obtain ⟨rfl, rfl, rfl⟩ := hcs
      exact ⟨zs, .inr ⟨_, rfl, hl, hm, by simpa using hz, hcell, hwz⟩⟩
  clear hA0
  refine (walk a0 len0 cap0 z0 W w0 ).mono fun e W' ⟨he, bel⟩ => ?_
  subst he
  exact ⟨_, rfl, _, _, _, [], _, [], hW', trodAll_mk1 (shut_bool Try.underlying4 _), (trodAll_cons_mk (Below.trod Errs.laidOut (by kernel_rfl) (of_decide_eq_true (by kernel_rfl)) k0 bel lt0) trodAll_mk0), rfl, bel.frame _, fun h => by cases h⟩

set_option maxRecDepth 100000 in
theorem lifted (os : Os) (started : os.Started) (H : Type) (enc : TypeId × Value → H) :
    ReturnsInHanded {} Try.checked os 3 .any (Rows.fnSpiralSpec.pre6 enc Try.prog Try.f3 Rows.fnSpiralRow.domain false) (Rows.fnSpiralSpec.post enc Try.prog Try.f3 false true false false) := by
  refine returnsInHanded_of_change (C := Try.checked) Errs.own started (by kernel_rfl) Try.func3
    (ChangeSpec.witness6 (enc := enc) (C := Try.checked) false ⟨#[], #[.slice none 0 0], []⟩ 8 (by kernel_rfl) (by kernel_rfl) (by kernel_rfl) (by kernel_rfl)) ?_
  intro W base args ds gs before hval hW _ _
  exact contract H enc W base args ds gs before hval hW

set_option maxRecDepth 100000 in
theorem over : Rows.fnSpiralRow.holds Try.pinned (OpenSpec.ofChange Rows.fnSpiralSpec) :=
  OpenClaim.holds_of_wide 3 Try.f3 rfl rfl rfl rfl rfl rfl rfl ⟨rfl, rfl, rfl, rfl, rfl⟩ rfl rfl rfl rfl rfl (by kernel_rfl) Try.func3 (by kernel_rfl)
    (of_decide_eq_true (by kernel_rfl)) (by unfold Func.isWrapper; first | (rw [if_pos (by decide +kernel)]; kernel_rfl) | (rw [if_neg (by decide +kernel)]; exact ⟨rfl, rfl⟩))
    (fun os started H enc _ => lifted os started H enc)
end Go.Proofs.Ythlonhdjmjmkmac.fnSpiral
namespace Go.Proofs.Ythlonhdjmjmkmac
theorem FnSpiral_holds : Rows.FnSpiralSaid := fnSpiral.over
end Go.Proofs.Ythlonhdjmjmkmac

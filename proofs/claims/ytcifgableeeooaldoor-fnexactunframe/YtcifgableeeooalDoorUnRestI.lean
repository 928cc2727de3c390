/- The program's look at what stands behind a block. -/
import Derived.Test.YtcifgableeeooalDoorUnCopyI
namespace Go.Proofs.YtcifgableeeooalDoor
namespace Pk
open Go.ChangeShapes Go.WideShapes Go.ChangeAt Go.RowKit
open Math (bitAt lowAt topAt rst)
set_option linter.unusedSimpArgs false
set_option linter.unusedVariables false

set_option maxRecDepth 100000 in
set_option maxHeartbeats 1000000 in
theorem restI_val (c : Nat) (s : ByteArray) (a : Nat) (v : Value) (w : World) (hs : s.size ≤ 100000) (ha : a ≤ 8 * s.size) (H : RdI c s a v w) :
    Calls Tryd.prog 43 #[.pointer (some ⟨c, 0, none⟩)] w fun e w' => ((rst s 8 a = 0 → e = .returned (.tuple #[]) ∧ ∃ q, RdI c s q v w') ∧ (rst s 8 a ≠ 0 → rst s 8 a = 6 ∧ e = fault 6)) ∧ Bt c w w' := by
  have HRF : Hid (∀ W : World, _) := fun W => refuse_no 6 W
  have HRY : Hid (∀ W : World, _) := fun W => refuse_yes 6 W
  go_enter Tryd.func43, Tryd.ntmps43
  go_wp2
  go_loopw [] (fun wr => ∃ (q n : Nat), q ≤ 8 * s.size ∧ (q % 8 = 0 ∨ 8 ≤ n + q % 8) ∧ Hid (rst s 8 a = rst s n q) ∧ Hid (RdI c s q v wr) ∧ Hid (Bt c w wr)) (fun wr => 8 * s.size - (intOf ((wr.cell? ⟨c, 1, none⟩).getD undef)).toNat)
  case atStart => exact ⟨a, 8, ha, by omega, rfl, H, Bt.refl _ _⟩
  case round =>
    obtain ⟨q, n, hq, hn, HE, HR, L⟩ := hrel
    have m : wr.heap[c]? = some (.cells #[.string s, .int .i64 (q : Int), v] 61) := HR.out
    have c0 : wr.cell? ⟨c, 0, none⟩ = some (.string s) := cell_at m 0
    have c1 : wr.cell? ⟨c, 1, none⟩ = some (.int .i64 (q : Int)) := cell_at m 1
    clear m
    have ht : Int.tmod (q : Int) 8 = ((q % 8 : Nat) : Int) := by rw [Int.tmod_eq_emod_of_nonneg (by omega)]; omega
    have hr : (q : Int) % 8 = ((q % 8 : Nat) : Int) := by omega
    by_cases h8 : q % 8 = 0
    · have he := HE.out
      rw [Math.rst_end s n q h8] at he
      rw [h8] at ht hr
      by_cases hend : q < 8 * s.size
      · rw [if_pos hend] at he
        have HE6 : Hid (_) := he
        have hneb : ((q : Int) != (s.size : Int) * 8) = true := by rw [bne_iff_ne]; omega
        have hne : ¬ ((q : Int) = (s.size : Int) * 8) := by omega
        have hw8 : IntKind.i64.wrap ((s.size : Int) * 8) = (s.size : Int) * 8 := wrap_is _ (by omega)
        clear he HE
        go_wp2
        refine wp_region_held_drew (S := (fun w' => w'.cell? ⟨c, 0, none⟩ = some (.string s) ∧ w'.cell? ⟨c, 1, none⟩ = some (.int .i64 (q : Int)))) (by kernel_rfl) ?_ (fun hHeld => ?_)
        · exact ⟨c0, c1⟩
        refine wpAnyH_take (i := 0) (oi := { dst := some 12, op := Op.move (Operand.tmp 0), type := 66, pos := "l03_pack.go:381", after := #[], guard := none }) (v := ?_) rfl (by kernel_rfl) (by kernel_rfl) (by kernel_rfl) (fun _ _ _ h => h) (Or.inl ⟨by rfl, ?_⟩) (by assumption) ?_
        rotate_left 1
        · (intro wS hSw; (try dsimp only at hSw); go_simp; try (with_reducible rfl))
        (try simp only [Act.put, List.setIfInBounds_toArray, List.set_cons_zero, List.set_cons_succ])
        refine wpAnyH_take (i := 1) (oi := { dst := some 13, op := Op.nilCheck (Operand.tmp 12), type := 0, pos := "l03_pack.go:381", after := #[{ on := 0, ground := Ground.data }], guard := none }) (v := ?_) rfl (by kernel_rfl) (by kernel_rfl) (by kernel_rfl) (fun _ _ _ h => h) (Or.inl ⟨by rfl, ?_⟩) (by assumption) ?_
        rotate_left 1
        · (intro wS hSw; (try dsimp only at hSw); go_simp; try (with_reducible rfl))
        (try simp only [Act.put, List.setIfInBounds_toArray, List.set_cons_zero, List.set_cons_succ])
        refine wpAnyH_take (i := 2) (oi := { dst := some 14, op := Op.fieldAddr 61 (Operand.tmp 13) 1, type := 0, pos := "l03_pack.go:381", after := #[{ on := 1, ground := Ground.data }], guard := none }) (v := ?_) rfl (by kernel_rfl) (by kernel_rfl) (by kernel_rfl) (fun _ _ _ h => h) (Or.inl ⟨by rfl, ?_⟩) (by assumption) ?_
        rotate_left 1
        · (intro wS hSw; (try dsimp only at hSw); go_simp; try (with_reducible rfl))
        (try simp only [Act.put, List.setIfInBounds_toArray, List.set_cons_zero, List.set_cons_succ])
        refine wpAnyH_take (i := 3) (oi := { dst := some 15, op := Op.load 3 (Operand.tmp 14), type := 3, pos := "l03_pack.go:381", after := #[{ on := 2, ground := Ground.data }], guard := none }) (v := ?_) rfl (by kernel_rfl) (by kernel_rfl) (by kernel_rfl) (fun _ _ _ h => h) (Or.inl ⟨by rfl, ?_⟩) (by assumption) ?_
        rotate_left 1
        · (intro wS hSw; (try dsimp only at hSw); go_simp; try (with_reducible rfl))
        (try simp only [Act.put, List.setIfInBounds_toArray, List.set_cons_zero, List.set_cons_succ])
        refine wpAnyH_take (i := 4) (oi := { dst := some 16, op := Op.move (Operand.tmp 0), type := 66, pos := "l03_pack.go:381", after := #[], guard := none }) (v := ?_) rfl (by kernel_rfl) (by kernel_rfl) (by kernel_rfl) (fun _ _ _ h => h) (Or.inl ⟨by rfl, ?_⟩) (by assumption) ?_
        rotate_left 1
        · (intro wS hSw; (try dsimp only at hSw); go_simp; try (with_reducible rfl))
        (try simp only [Act.put, List.setIfInBounds_toArray, List.set_cons_zero, List.set_cons_succ])
        refine wpAnyH_take (i := 5) (oi := { dst := some 17, op := Op.nilCheck (Operand.tmp 16), type := 0, pos := "l03_pack.go:381", after := #[{ on := 4, ground := Ground.data }], guard := none }) (v := ?_) rfl (by kernel_rfl) (by kernel_rfl) (by kernel_rfl) (fun _ _ _ h => h) (Or.inl ⟨by rfl, ?_⟩) (by assumption) ?_
        rotate_left 1
        · (intro wS hSw; (try dsimp only at hSw); go_simp; try (with_reducible rfl))
        (try simp only [Act.put, List.setIfInBounds_toArray, List.set_cons_zero, List.set_cons_succ])
        refine wpAnyH_take (i := 6) (oi := { dst := some 18, op := Op.fieldAddr 61 (Operand.tmp 17) 0, type := 0, pos := "l03_pack.go:381", after := #[{ on := 5, ground := Ground.data }], guard := none }) (v := ?_) rfl (by kernel_rfl) (by kernel_rfl) (by kernel_rfl) (fun _ _ _ h => h) (Or.inl ⟨by rfl, ?_⟩) (by assumption) ?_
        rotate_left 1
        · (intro wS hSw; (try dsimp only at hSw); go_simp; try (with_reducible rfl))
        (try simp only [Act.put, List.setIfInBounds_toArray, List.set_cons_zero, List.set_cons_succ])
        refine wpAnyH_take (i := 7) (oi := { dst := some 19, op := Op.load 9 (Operand.tmp 18), type := 9, pos := "l03_pack.go:381", after := #[{ on := 6, ground := Ground.data }], guard := none }) (v := ?_) rfl (by kernel_rfl) (by kernel_rfl) (by kernel_rfl) (fun _ _ _ h => h) (Or.inl ⟨by rfl, ?_⟩) (by assumption) ?_
        rotate_left 1
        · (intro wS hSw; (try dsimp only at hSw); go_simp; try (with_reducible rfl))
        (try simp only [Act.put, List.setIfInBounds_toArray, List.set_cons_zero, List.set_cons_succ])
        refine wpAnyH_take (i := 8) (oi := { dst := some 20, op := Op.call { callee := Callee.builtin Builtin.len, args := #[Operand.tmp 19], argTypes := #[9] }, type := 3, pos := "l03_pack.go:381", after := #[{ on := 7, ground := Ground.data }], guard := none }) (v := ?_) rfl (by kernel_rfl) (by kernel_rfl) (by kernel_rfl) (fun _ _ _ h => h) (Or.inl ⟨by rfl, ?_⟩) (by assumption) ?_
        rotate_left 1
        · (intro wS hSw; (try dsimp only at hSw); go_simp; try (with_reducible rfl))
        (try simp only [Act.put, List.setIfInBounds_toArray, List.set_cons_zero, List.set_cons_succ])
        refine wpAnyH_take (i := 9) (oi := { dst := some 21, op := Op.binOp BinOp.mul 3 (Operand.tmp 20) (Operand.const (Value.int IntKind.i64 8)) 3, type := 3, pos := "l03_pack.go:381", after := #[{ on := 8, ground := Ground.data }], guard := none }) (v := ?_) rfl (by kernel_rfl) (by kernel_rfl) (by kernel_rfl) (fun _ _ _ h => h) (Or.inl ⟨by rfl, ?_⟩) (by assumption) ?_
        rotate_left 1
        · (intro wS hSw; (try dsimp only at hSw); go_simp; try (with_reducible rfl))
        (try simp only [Act.put, List.setIfInBounds_toArray, List.set_cons_zero, List.set_cons_succ])
        refine wpAnyH_take (i := 10) (oi := { dst := some 22, op := Op.binOp BinOp.neq 3 (Operand.tmp 15) (Operand.tmp 21) 3, type := 4, pos := "l03_pack.go:381", after := #[{ on := 3, ground := Ground.data }, { on := 9, ground := Ground.data }], guard := none }) (v := ?_) rfl (by kernel_rfl) (by kernel_rfl) (by kernel_rfl) (fun _ _ _ h => h) (Or.inl ⟨by rfl, ?_⟩) (by assumption) ?_
        rotate_left 1
        · (intro wS hSw; (try dsimp only at hSw); go_simp; try (with_reducible rfl))
        (try simp only [Act.put, List.setIfInBounds_toArray, List.set_cons_zero, List.set_cons_succ])
        refine wpAnyH_ready (rs := [11]) (by kernel_rfl) (by simp) ?_
        refine AllReadyH.cons (o := { dst := some 23, op := Op.call { callee := Callee.value (Operand.func 34), args := #[Operand.tmp 22, Operand.const (Value.int IntKind.i64 6)], argTypes := #[4, 3] }, type := 0, pos := "l03_pack.go:381", after := #[{ on := 10, ground := Ground.data }], guard := none }) rfl (fun K hK => ?_) AllReadyH.nil
        go_simp
        refine (HRY.out _).mono ?_
        rintro e x1 ⟨rfl, hx1⟩
        subst hx1
        exact ⟨rfl, ⟨fun h => absurd (HE6.out.symm.trans h) (by omega), fun _ => ⟨HE6.out, rfl⟩⟩, L.out.drew⟩
      · rw [if_neg hend] at he
        have HE6 : Hid (_) := he
        obtain rfl : q = 8 * s.size := by omega
        have e8 : ((8 * s.size : Nat) : Int) = (s.size : Int) * 8 := by omega
        rw [e8] at c1 ht hr
        have hneb : ((s.size : Int) * 8 != (s.size : Int) * 8) = false := by simp
        have hw8 : IntKind.i64.wrap ((s.size : Int) * 8) = (s.size : Int) * 8 := wrap_is _ (by omega)
        clear he HE e8
        go_wp2
        go_quiet ((go_at_call 34; exact Calls.quiet_of_same (HRF.out _)))
        go_wp2
        exact ⟨rfl, _, results_none rfl _ _ _, ⟨fun _ => ⟨rfl, _, HR.out⟩, fun h => absurd HE6.out h⟩, L.out.drewN _⟩
    · have h80 : ¬ ((q % 8 : Nat) : Int) = 0 := by omega
      have hlt : q < 8 * s.size := by omega
      obtain ⟨k, rfl⟩ : ∃ k, n = k + 1 := ⟨n - 1, by omega⟩
      have HES : Hid (rst s (k + 1) q = if q % 8 = 0 then (if q < 8 * s.size then 6 else 0) else if bitAt s q = 1 then 6 else rst s k (q + 1)) := rfl
      have HB : Hid (∀ _ : Unit, _) := fun _ => bitI_ok 0 c s q v wr hs (Nat.zero_le _) hlt HR.out
      have hb := Math.bitAt_le s q
      generalize hr8 : q % 8 = r at *
      by_cases hb1 : bitAt s q = 1
      · rw [hb1] at HB
        have he := HE.out.trans (HES.out.trans (by rw [if_neg h8, if_pos hb1]))
        have HE6 : Hid (_) := he
        clear he HE HES
        go_wp2_with fail
        refine (HB.out ()).mono ?_
        rintro e w2 ⟨rfl, R2, M2, L2⟩
        have HB2 : Hid (_) := L.out.trans (Bt.of M2 L2)
        clear M2 L2 R2
        go_wp2_with fail
        refine (HRY.out _).mono ?_
        rintro e x6 ⟨rfl, rfl⟩
        exact ⟨rfl, ⟨fun h => absurd (HE6.out.symm.trans h) (by omega), fun _ => ⟨HE6.out, rfl⟩⟩, HB2.out⟩
      · have hb0 : bitAt s q = 0 := by omega
        rw [hb0] at HB
        have he := HE.out.trans (HES.out.trans (by rw [if_neg h8, if_neg hb1]))
        have HE6 : Hid (_) := he
        clear he HE HES
        go_wp2_with fail
        refine (HB.out ()).mono ?_
        rintro e w2 ⟨rfl, R2, M2, L2⟩
        have HB2 : Hid (_) := L.out.trans (Bt.of M2 L2)
        have HR2 : Hid (_) := R2
        clear M2 L2 R2
        go_wp2_with fail
        refine (HRF.out _).mono ?_
        rintro e x6 ⟨rfl, rfl⟩
        go_wp2
        go_roundw
        case rel => exact ⟨q + 1, k, by omega, by omega, HE6.out, HR2.out, HB2.out⟩
        case measure =>
          have h9 := cell_at HR2.out 1
          rw [c1]
          have h9' : x6.cell? ⟨c, 1, none⟩ = some (.int .i64 ((q + 1 : Nat) : Int)) := h9
          simp only [h9', Option.getD_some, intOf]
          omega

end Pk
end Go.Proofs.YtcifgableeeooalDoor

/- The contracts of the program's reader of bits: it answers, or it panics with its fault. -/
import Derived.Test.YtcifgableeeooalDoorUnRefuse
import Derived.Test.YtcifgableeeooalDoorUnRead
import Derived.Test.YtcifgableeeooalDoorMathUnp
import Derived.Test.YtcifgableeeooalDoorMathBit
import Derived.Deep.RegionWith
import Derived.Deep.RegionHeld3
namespace Go.Proofs.YtcifgableeeooalDoor
namespace Pk
open Go.ChangeShapes Go.WideShapes Go.ChangeAt Go.RowKit
open Math (bitAt lowAt topAt symAt symLen)
set_option linter.unusedSimpArgs false
set_option linter.unusedVariables false

/-- The program's reader at block c stands behind a bits; what it has made is v. -/
def RdI (c : Nat) (s : ByteArray) (a : Nat) (v : Value) (w : World) : Prop := w.heap[c]? = some (.cells #[.string s, .int .i64 (a : Int), v] 61)

theorem RdI.drewN {c : Nat} {s : ByteArray} {a : Nat} {v : Value} {w : World} (h : RdI c s a v w) (n : Nat) : RdI c s a v (w.drewN n) := h

set_option maxRecDepth 100000 in
set_option maxHeartbeats 1000000 in
theorem bitI_ok (B c : Nat) (s : ByteArray) (a : Nat) (v : Value) (w : World) (hs : s.size ≤ 100000) (hB : B ≤ c) (ha : a < 8 * s.size) (H : RdI c s a v w) :
    Calls Tryd.prog 35 #[.pointer (some ⟨c, 0, none⟩)] w fun e w' => e = .returned (.int .i64 (bitAt s a : Nat)) ∧ RdI c s (a + 1) v w' ∧ Mv c w w' ∧ Below B w w' := by
  have m : w.heap[c]? = some (.cells #[.string s, .int .i64 (a : Int), v] 61) := H
  have f1 := frozen_at m 1
  have c0 : w.cell? ⟨c, 0, none⟩ = some (.string s) := cell_at m 0
  have c1 : w.cell? ⟨c, 1, none⟩ = some (.int .i64 (a : Int)) := cell_at m 1
  have hi : a / 8 < s.size := by omega
  have HB : Hid (_) := Math.bitAt_in s a hi
  have hq : (a : Int) / 8 = ((a / 8 : Nat) : Int) := by omega
  have hr : (a : Int) % 8 = ((a % 8 : Nat) : Int) := by omega
  have hr8 : a % 8 < 8 := by omega
  have ht : Int.tmod (a : Int) 8 = ((a % 8 : Nat) : Int) := by rw [Int.tmod_eq_emod_of_nonneg (by omega)]; omega
  have htd : Int.tdiv (a : Int) 8 = ((a / 8 : Nat) : Int) := by rw [Int.tdiv_eq_ediv_of_nonneg (by omega)]; omega
  have hne : ¬ (a : Int) = (s.size : Int) * 8 := by omega
  have hneb : ((a : Int) == (s.size : Int) * 8) = false := beq_eq_false_iff_ne.2 hne
  have HRF : Hid (∀ W, _) := fun W => refuse_no 1 W
  have hw8 : IntKind.i64.wrap ((s.size : Int) * 8) = (s.size : Int) * 8 := wrap_is _ (by omega)
  have HW : Hid (∀ (w1 : World), w1.heap[c]? = some (.cells #[.string s, .int .i64 (a : Int), v] 61) → RdI c s (a + 1) v (w1.setCell ⟨c, 1, none⟩ (.int .i64 ((a : Int) + 1)))) := fun w1 m1 => hp_set (w := w1) (i := 1) m1 (.int .i64 ((a : Int) + 1))
  have hbt := s[a / 8].toNat_lt
  have hand := Math.and_one_i64 (s[a / 8].toNat / 2 ^ (a % 8)) (by have : s[a / 8].toNat / 2 ^ (a % 8) ≤ s[a / 8].toNat := Nat.div_le_self _ _; omega)
  have hil : ((a / 8 : Nat) : Int) < (s.size : Int) := by omega
  have hdl : s[a / 8].toNat / 2 ^ (a % 8) ≤ s[a / 8].toNat := Nat.div_le_self _ _
  have hdv := bit_quo s[a / 8].toNat (a % 8)
  have hdv2 : ((s[a / 8].toNat : Nat) : Int) / 2 ^ (a % 8) = ((s[a / 8].toNat / 2 ^ (a % 8) : Nat) : Int) := by rw [Int.natCast_ediv]; simp
  rw [HB.out]
  have HM : Hid (_) := m
  clear m HB
  generalize a / 8 = i at *
  generalize a % 8 = r at *
  generalize s[i].toNat / 2 ^ r = Y at *
  have hi0 : (0 : Int) ≤ (i : Int) := by omega
  have hw1 : IntKind.i64.wrap (i : Int) = i := wrap_is _ (by omega)
  have hw2 : IntKind.i64.wrap (r : Int) = r := wrap_is _ (by omega)
  have hw5 : IntKind.i64.wrap (s[i].toNat : Int) = s[i].toNat := wrap_is _ (by omega)
  have hr0 : (0 : Int) ≤ (r : Int) := by omega
  have hr64 : (r : Int) < 64 := by omega
  have hrt : ((r : Int)).toNat = r := by omega
  go_enter Tryd.func35, Tryd.ntmps35
  go_wp2
  go_quiet ((go_at_call 34; exact Calls.quiet_of_same (HRF.out _)))
  have m9 : (w.drewN nq).heap[c]? = some (.cells #[.string s, .int .i64 (a : Int), v] 61) := HM.out
  have M9 : Mv c w (w.drewN nq) := (Mv.refl c w).drewN nq
  have L9 : Below B w (w.drewN nq) := below_drewN (Below.refl B w) nq
  clear c0 c1 f1 HM H
  generalize w.drewN nq = w9 at m9 M9 L9 ⊢
  have c0 : w9.cell? ⟨c, 0, none⟩ = some (.string s) := cell_at m9 0
  have c1 : w9.cell? ⟨c, 1, none⟩ = some (.int .i64 (a : Int)) := cell_at m9 1
  have f1 := frozen_at m9 1
  have HM : Hid (_) := m9
  clear m9
  go_wp2_with fail
  go_quiet (fail)
  go_wp2
  go_ret
  exact ⟨rfl, HW.out _ HM.out, (M9.drewN _).trans (Mv.set c 1 _ _), (below_drewN L9 _).setCell hB _⟩

set_option maxRecDepth 100000 in
set_option maxHeartbeats 1000000 in
theorem bitI_cut (B c : Nat) (s : ByteArray) (v : Value) (w : World) (hs : s.size ≤ 100000) (hB : B ≤ c) (H : RdI c s (8 * s.size) v w) :
    Calls Tryd.prog 35 #[.pointer (some ⟨c, 0, none⟩)] w fun e w' => e = fault 1 ∧ Mv c w w' ∧ Below B w w' := by
  have m : w.heap[c]? = some (.cells #[.string s, .int .i64 ((8 * s.size : Nat) : Int), v] 61) := H
  have c0 : w.cell? ⟨c, 0, none⟩ = some (.string s) := cell_at m 0
  have c1 : w.cell? ⟨c, 1, none⟩ = some (.int .i64 ((8 * s.size : Nat) : Int)) := cell_at m 1
  have e8 : ((8 * s.size : Nat) : Int) = (s.size : Int) * 8 := by omega
  rw [e8] at c1
  have hneb : ((s.size : Int) * 8 == (s.size : Int) * 8) = true := by simp
  have HRF : Hid (∀ W, _) := fun W => refuse_yes 1 W
  have hw8 : IntKind.i64.wrap ((s.size : Int) * 8) = (s.size : Int) * 8 := wrap_is _ (by omega)
  clear e8
  go_enter Tryd.func35, Tryd.ntmps35
  go_wp2
  refine wp_region_held_drew (S := (fun w' => w'.cell? ⟨c, 0, none⟩ = some (.string s) ∧ w'.cell? ⟨c, 1, none⟩ = some (.int .i64 ((s.size : Int) * 8)))) (by kernel_rfl) ?_ (fun hHeld => ?_)
  · exact ⟨c0, c1⟩
  refine wpAnyH_take (i := 0) (oi := { dst := some 4, op := Op.move (Operand.tmp 0), type := 66, pos := "l03_pack.go:313", after := #[], guard := none }) (v := ?_) rfl (by kernel_rfl) (by kernel_rfl) (by kernel_rfl) (fun _ _ _ h => h) (Or.inl ⟨by rfl, ?_⟩) (by assumption) ?_
  rotate_left 1
  · (intro wS hSw; (try dsimp only at hSw); go_simp; try (with_reducible rfl))
  (try simp only [Act.put, List.setIfInBounds_toArray, List.set_cons_zero, List.set_cons_succ])
  refine wpAnyH_take (i := 1) (oi := { dst := some 5, op := Op.nilCheck (Operand.tmp 4), type := 0, pos := "l03_pack.go:313", after := #[{ on := 0, ground := Ground.data }], guard := none }) (v := ?_) rfl (by kernel_rfl) (by kernel_rfl) (by kernel_rfl) (fun _ _ _ h => h) (Or.inl ⟨by rfl, ?_⟩) (by assumption) ?_
  rotate_left 1
  · (intro wS hSw; (try dsimp only at hSw); go_simp; try (with_reducible rfl))
  (try simp only [Act.put, List.setIfInBounds_toArray, List.set_cons_zero, List.set_cons_succ])
  refine wpAnyH_take (i := 2) (oi := { dst := some 6, op := Op.fieldAddr 61 (Operand.tmp 5) 1, type := 0, pos := "l03_pack.go:313", after := #[{ on := 1, ground := Ground.data }], guard := none }) (v := ?_) rfl (by kernel_rfl) (by kernel_rfl) (by kernel_rfl) (fun _ _ _ h => h) (Or.inl ⟨by rfl, ?_⟩) (by assumption) ?_
  rotate_left 1
  · (intro wS hSw; (try dsimp only at hSw); go_simp; try (with_reducible rfl))
  (try simp only [Act.put, List.setIfInBounds_toArray, List.set_cons_zero, List.set_cons_succ])
  refine wpAnyH_take (i := 3) (oi := { dst := some 7, op := Op.load 3 (Operand.tmp 6), type := 3, pos := "l03_pack.go:313", after := #[{ on := 2, ground := Ground.data }], guard := none }) (v := ?_) rfl (by kernel_rfl) (by kernel_rfl) (by kernel_rfl) (fun _ _ _ h => h) (Or.inl ⟨by rfl, ?_⟩) (by assumption) ?_
  rotate_left 1
  · (intro wS hSw; (try dsimp only at hSw); go_simp; try (with_reducible rfl))
  (try simp only [Act.put, List.setIfInBounds_toArray, List.set_cons_zero, List.set_cons_succ])
  refine wpAnyH_take (i := 4) (oi := { dst := some 8, op := Op.move (Operand.tmp 0), type := 66, pos := "l03_pack.go:313", after := #[], guard := none }) (v := ?_) rfl (by kernel_rfl) (by kernel_rfl) (by kernel_rfl) (fun _ _ _ h => h) (Or.inl ⟨by rfl, ?_⟩) (by assumption) ?_
  rotate_left 1
  · (intro wS hSw; (try dsimp only at hSw); go_simp; try (with_reducible rfl))
  (try simp only [Act.put, List.setIfInBounds_toArray, List.set_cons_zero, List.set_cons_succ])
  refine wpAnyH_take (i := 5) (oi := { dst := some 9, op := Op.nilCheck (Operand.tmp 8), type := 0, pos := "l03_pack.go:313", after := #[{ on := 4, ground := Ground.data }], guard := none }) (v := ?_) rfl (by kernel_rfl) (by kernel_rfl) (by kernel_rfl) (fun _ _ _ h => h) (Or.inl ⟨by rfl, ?_⟩) (by assumption) ?_
  rotate_left 1
  · (intro wS hSw; (try dsimp only at hSw); go_simp; try (with_reducible rfl))
  (try simp only [Act.put, List.setIfInBounds_toArray, List.set_cons_zero, List.set_cons_succ])
  refine wpAnyH_take (i := 6) (oi := { dst := some 10, op := Op.fieldAddr 61 (Operand.tmp 9) 0, type := 0, pos := "l03_pack.go:313", after := #[{ on := 5, ground := Ground.data }], guard := none }) (v := ?_) rfl (by kernel_rfl) (by kernel_rfl) (by kernel_rfl) (fun _ _ _ h => h) (Or.inl ⟨by rfl, ?_⟩) (by assumption) ?_
  rotate_left 1
  · (intro wS hSw; (try dsimp only at hSw); go_simp; try (with_reducible rfl))
  (try simp only [Act.put, List.setIfInBounds_toArray, List.set_cons_zero, List.set_cons_succ])
  refine wpAnyH_take (i := 7) (oi := { dst := some 11, op := Op.load 9 (Operand.tmp 10), type := 9, pos := "l03_pack.go:313", after := #[{ on := 6, ground := Ground.data }], guard := none }) (v := ?_) rfl (by kernel_rfl) (by kernel_rfl) (by kernel_rfl) (fun _ _ _ h => h) (Or.inl ⟨by rfl, ?_⟩) (by assumption) ?_
  rotate_left 1
  · (intro wS hSw; (try dsimp only at hSw); go_simp; try (with_reducible rfl))
  (try simp only [Act.put, List.setIfInBounds_toArray, List.set_cons_zero, List.set_cons_succ])
  refine wpAnyH_take (i := 8) (oi := { dst := some 12, op := Op.call { callee := Callee.builtin Builtin.len, args := #[Operand.tmp 11], argTypes := #[9] }, type := 3, pos := "l03_pack.go:313", after := #[{ on := 7, ground := Ground.data }], guard := none }) (v := ?_) rfl (by kernel_rfl) (by kernel_rfl) (by kernel_rfl) (fun _ _ _ h => h) (Or.inl ⟨by rfl, ?_⟩) (by assumption) ?_
  rotate_left 1
  · (intro wS hSw; (try dsimp only at hSw); go_simp; try (with_reducible rfl))
  (try simp only [Act.put, List.setIfInBounds_toArray, List.set_cons_zero, List.set_cons_succ])
  refine wpAnyH_take (i := 9) (oi := { dst := some 13, op := Op.binOp BinOp.mul 3 (Operand.tmp 12) (Operand.const (Value.int IntKind.i64 8)) 3, type := 3, pos := "l03_pack.go:313", after := #[{ on := 8, ground := Ground.data }], guard := none }) (v := ?_) rfl (by kernel_rfl) (by kernel_rfl) (by kernel_rfl) (fun _ _ _ h => h) (Or.inl ⟨by rfl, ?_⟩) (by assumption) ?_
  rotate_left 1
  · (intro wS hSw; (try dsimp only at hSw); go_simp; try (with_reducible rfl))
  (try simp only [Act.put, List.setIfInBounds_toArray, List.set_cons_zero, List.set_cons_succ])
  refine wpAnyH_take (i := 10) (oi := { dst := some 14, op := Op.binOp BinOp.eql 3 (Operand.tmp 7) (Operand.tmp 13) 3, type := 4, pos := "l03_pack.go:313", after := #[{ on := 3, ground := Ground.data }, { on := 9, ground := Ground.data }], guard := none }) (v := ?_) rfl (by kernel_rfl) (by kernel_rfl) (by kernel_rfl) (fun _ _ _ h => h) (Or.inl ⟨by rfl, ?_⟩) (by assumption) ?_
  rotate_left 1
  · (intro wS hSw; (try dsimp only at hSw); go_simp; try (with_reducible rfl))
  (try simp only [Act.put, List.setIfInBounds_toArray, List.set_cons_zero, List.set_cons_succ])
  refine wpAnyH_ready (rs := [11]) (by kernel_rfl) (by simp) ?_
  refine AllReadyH.cons (o := { dst := some 15, op := Op.call { callee := Callee.value (Operand.func 34), args := #[Operand.tmp 14, Operand.const (Value.int IntKind.i64 1)], argTypes := #[4, 3] }, type := 0, pos := "l03_pack.go:313", after := #[{ on := 10, ground := Ground.data }], guard := none }) rfl (fun K hK => ?_) AllReadyH.nil
  go_simp
  refine (HRF.out _).mono ?_
  rintro e x1 ⟨rfl, hx1⟩
  subst hx1
  exact ⟨rfl, rfl, ⟨rfl, fun _ _ => rfl⟩, (Below.refl _ _).drew⟩

end Pk
end Go.Proofs.YtcifgableeeooalDoor

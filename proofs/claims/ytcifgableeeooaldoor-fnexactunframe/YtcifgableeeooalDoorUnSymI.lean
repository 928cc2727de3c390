/- The contract of the program's reader of a symbol. -/
import Derived.Test.YtcifgableeeooalDoorUnBt
import Derived.Deep.RegionHeld3
namespace Go.Proofs.YtcifgableeeooalDoor
namespace Pk
open Go.ChangeShapes Go.WideShapes Go.ChangeAt Go.RowKit
open Math (bitAt lowAt topAt symAt symLen)
set_option linter.unusedSimpArgs false
set_option linter.unusedVariables false

/-- How the reader of a symbol ends. -/
def SymEnd (s : ByteArray) (a c : Nat) (v : Value) (e : Ending) (w : World) : Prop :=
  (8 * s.size < a + symLen s a → e = fault 1) ∧ (¬ 8 * s.size < a + symLen s a → 285 < symAt s a → e = fault 3) ∧ (¬ 8 * s.size < a + symLen s a → ¬ 285 < symAt s a → e = .returned (.int .i64 (symAt s a : Nat)) ∧ RdI c s (a + symLen s a) v w)

theorem Bt.drewN {c : Nat} {a w : World} (h : Bt c a w) (n : Nat) : Bt c a (w.drewN n) := ⟨h.os, h.tape, h.output, h.size, h.block⟩

theorem Bt.drew {c : Nat} {a w : World} (h : Bt c a w) : Bt c a w.drew := ⟨h.os, h.tape, h.output, h.size, h.block⟩

theorem symLen_ge (s : ByteArray) (a : Nat) : 7 ≤ symLen s a := by unfold symLen; split <;> (try split) <;> omega

theorem sym_0 (s : ByteArray) (a : Nat) (h : topAt s a 7 < 24) : symAt s a = 256 + topAt s a 7 ∧ symLen s a = 7 := by
  unfold symAt symLen
  rw [if_pos h, if_pos h]
  exact ⟨rfl, rfl⟩

theorem sym_1 (s : ByteArray) (a : Nat) (h : 24 ≤ topAt s a 7) (h1 : topAt s a 8 < 192) : symAt s a = topAt s a 8 - 48 ∧ symLen s a = 8 := by
  unfold symAt symLen
  simp only [if_neg (show ¬ topAt s a 7 < 24 by omega), if_pos h1, if_pos (show topAt s a 8 < 200 by omega)]
  exact ⟨trivial, trivial⟩

theorem sym_2 (s : ByteArray) (a : Nat) (h : 24 ≤ topAt s a 7) (h1 : 192 ≤ topAt s a 8) (h2 : topAt s a 8 < 200) : symAt s a = 280 + topAt s a 8 - 192 ∧ symLen s a = 8 := by
  unfold symAt symLen
  simp only [if_neg (show ¬ topAt s a 7 < 24 by omega), if_neg (show ¬ topAt s a 8 < 192 by omega), if_pos h2]
  exact ⟨trivial, trivial⟩

theorem sym_3 (s : ByteArray) (a : Nat) (h : 24 ≤ topAt s a 7) (h2 : 200 ≤ topAt s a 8) : symAt s a = 144 + topAt s a 9 - 400 ∧ symLen s a = 9 := by
  unfold symAt symLen
  simp only [if_neg (show ¬ topAt s a 7 < 24 by omega), if_neg (show ¬ topAt s a 8 < 192 by omega), if_neg (show ¬ topAt s a 8 < 200 by omega)]
  exact ⟨trivial, trivial⟩

theorem len_8 (s : ByteArray) (a : Nat) (h : 24 ≤ topAt s a 7) : 8 ≤ symLen s a := by unfold symLen; rw [if_neg (by omega)]; split <;> omega

theorem top_1 (s : ByteArray) (a : Nat) : topAt s a 1 = bitAt s a := by show 2 * 0 + bitAt s (a + 0) = _; rw [Nat.add_zero]; omega

theorem or_0 (x : Nat) (h : x < 2 ^ 30) : bits .or .i64 (IntKind.i64.wrap 0) (x : Int) = (x : Int) := by
  have e : IntKind.i64.wrap 0 = ((0 : Nat) : Int) := rfl
  rw [e, Math.bits_or_i64 0 x (by omega) (by omega), Nat.zero_or]

theorem or_s1 (s : ByteArray) (a n : Nat) (h : n ≤ 20) : bits .or .i64 (IntKind.i64.wrap ((topAt s a n : Nat) * 2)) (topAt s (a + n) 1 : Nat) = (topAt s a (n + 1) : Nat) := by
  have h2 := or_top (topAt s a n) (bitAt s (a + n)) n (Math.topAt_lt s a n) (Math.bitAt_le s (a + n)) (by omega)
  have hp := pow_30 n (by omega)
  have hl := Math.topAt_lt s a n
  have e : IntKind.i64.wrap (((topAt s a n : Nat) : Int) * 2) = ((topAt s a n : Nat) : Int) * 2 := by rw [IntKind.wrap_i64]; omega
  have e2 : wrap64 (((topAt s a n : Nat) : Int) * 2) = ((topAt s a n : Nat) : Int) * 2 := by unfold wrap64; omega
  rw [top_1, e, ← e2, h2]
  rfl

theorem or_s2 (s : ByteArray) (a : Nat) : bits .or .i64 (IntKind.i64.wrap (topAt s a 8 : Nat)) (topAt s (a + 8) 0 : Nat) = (topAt s a 8 : Nat) := by
  have h := Math.topAt_lt s a 8
  have e : IntKind.i64.wrap (topAt s a 8 : Nat) = (topAt s a 8 : Nat) := by rw [IntKind.wrap_i64]; omega
  rw [e, show topAt s (a + 8) 0 = 0 from rfl, Math.bits_or_i64 _ 0 (by omega) (by omega), Nat.or_zero]

set_option maxRecDepth 100000 in
set_option maxHeartbeats 4000000 in
theorem symI_val (B c : Nat) (s : ByteArray) (a : Nat) (v : Value) (w : World) (hs : s.size ≤ 100000) (hB : B ≤ c) (hB2 : B ≤ w.heap.size) (ha : a ≤ 8 * s.size) (R : Runs w) (H : RdI c s a v w) :
    Calls Tryd.prog 37 #[.pointer (some ⟨c, 0, none⟩)] w fun e w' => SymEnd s a c v e w' ∧ Bt c w w' := by
  have r0 := R 0 (by omega); have r1 := R 1 (by omega); have r2 := R 2 (by omega); have r3 := R 3 (by omega)
  have r4 := R 4 (by omega); have r5 := R 5 (by omega); have r6 := R 6 (by omega); have r7 := R 7 (by omega)
  have r8 := R 8 (by omega); have r9 := R 9 (by omega); have r10 := R 10 (by omega); have r11 := R 11 (by omega)
  have r12 := R 12 (by omega); have r13 := R 13 (by omega); have r14 := R 14 (by omega); have r15 := R 15 (by omega)
  simp [runVals] at r0 r1 r2 r3 r4 r5 r6 r7 r8 r9 r10 r11 r12 r13 r14 r15
  have HRF : Hid (∀ W, _) := fun W => refuse_no 3 W
  have HRY : Hid (∀ W, _) := fun W => refuse_yes 3 W
  go_enter Tryd.func37, Tryd.ntmps37
  go_wp2
  clear r0 r1 r2 r3 r4 r5 r6 r7 r8 r9 r10 r11 r12 r13 r14 r15
  go_loopw [3, 4, 5, 10] (fun y t q i wr => ∃ j : Nat, j ≤ 3 ∧ i = .int .i64 j ∧ (j = 0 → y = .int .i64 0 ∧ t = .int .i64 0 ∧ RdI c s a v wr) ∧ (j = 1 → y = .int .i64 (topAt s a 7 : Nat) ∧ t = .int .i64 7 ∧ RdI c s (a + 7) v wr ∧ a + 7 ≤ 8 * s.size ∧ 24 ≤ topAt s a 7) ∧ (j = 2 → y = .int .i64 (topAt s a 8 : Nat) ∧ t = .int .i64 8 ∧ RdI c s (a + 8) v wr ∧ a + 8 ≤ 8 * s.size ∧ 24 ≤ topAt s a 7 ∧ 192 ≤ topAt s a 8) ∧ (j = 3 → y = .int .i64 (topAt s a 8 : Nat) ∧ t = .int .i64 8 ∧ RdI c s (a + 8) v wr ∧ a + 8 ≤ 8 * s.size ∧ 24 ≤ topAt s a 7 ∧ 200 ≤ topAt s a 8) ∧ Hid (Bt c w wr)) (fun _ _ _ i _ => 4 - (intOf i).toNat)
  case atStart => exact ⟨0, by omega, rfl, fun _ => ⟨rfl, rfl, H⟩, fun h => by omega, fun h => by omega, fun h => by omega, Bt.refl _ _⟩
  case round =>
    obtain ⟨j, hj, rfl, h0, h1, h2, h3, L⟩ := hrel
    have hj4 : j = 0 ∨ j = 1 ∨ j = 2 ∨ j = 3 := by omega
    rcases hj4 with rfl | rfl | rfl | rfl
    · obtain ⟨rfl, rfl, R0⟩ := h0 rfl
      clear h0 h1 h2 h3
      rw [show ((0 : Nat) : Int) = 0 from rfl]
      have hix := run_at0 wr
      have hne : wr.heap.size ≠ c := fun h => by have := lt_of (show wr.heap[c]? = some _ from R0); omega
      have L1 := L.out.alloc (.cells #[.int .i64 256, .int .i64 279, .int .i64 7, .int .i64 0] 72)
      have mR := heap_new wr (.cells #[.int .i64 256, .int .i64 279, .int .i64 7, .int .i64 0] 72)
      have R1 := R0.alloc (.cells #[.int .i64 256, .int .i64 279, .int .i64 7, .int .i64 0] 72)
      have HE8 : Hid (topAt s a 8 = 2 * topAt s a 7 + bitAt s (a + 7)) := rfl
      have HE9 : Hid (topAt s a 9 = 2 * topAt s a 8 + bitAt s (a + 8)) := rfl
      have hb7 := Math.bitAt_le s (a + 7); have hb8 := Math.bitAt_le s (a + 8)
      have hx7 := Math.topAt_lt s a 7; have hx8 := Math.topAt_lt s a 8; have hx9 := Math.topAt_lt s a 9
      have hc2 : (wr.alloc (.cells #[.int .i64 256, .int .i64 279, .int .i64 7, .int .i64 0] 72)).cell? ⟨wr.heap.size, 2, none⟩ = some (.int .i64 7) := cell_at mR 2
      go_wp2
      generalize HW1 : wr.alloc (.cells #[.int .i64 256, .int .i64 279, .int .i64 7, .int .i64 0] 72) = W1 at *
      by_cases hcut : 8 * s.size < a + 7
      · have HC : Hid (∀ W : World, RdI c s a v W → Calls Tryd.prog 44 #[.pointer (some ⟨c, 0, none⟩), .int .i64 7] W fun e w' => e = fault 1 ∧ Mv c W w' ∧ Below 0 W w') := fun W h => topI_cut 0 c s a 7 v W hs (Nat.zero_le _) (by omega) (by omega) hcut h
        refine wp_region_held_drew (S := (fun w' => w'.cell? ⟨wr.heap.size, 2, none⟩ = some (.int .i64 7))) (by kernel_rfl) ?_ (fun hHeld => ?_)
        · exact hc2
        refine wpAnyH_take (i := 0) (oi := { dst := some 17, op := Op.move (Operand.tmp 3), type := 3, pos := "l03_pack.go:340", after := #[], guard := none }) (v := ?_) rfl (by kernel_rfl) (by kernel_rfl) (by kernel_rfl) (fun _ _ _ h => h) (Or.inl ⟨by rfl, ?_⟩) (by assumption) ?_
        rotate_left 1
        · (intro wS hSw; (try dsimp only at hSw); go_simp; try (with_reducible rfl))
        (try simp only [Act.put, List.setIfInBounds_toArray, List.set_cons_zero, List.set_cons_succ])
        refine wpAnyH_take (i := 1) (oi := { dst := some 18, op := Op.move (Operand.tmp 8), type := 3, pos := "l03_pack.go:340", after := #[], guard := none }) (v := ?_) rfl (by kernel_rfl) (by kernel_rfl) (by kernel_rfl) (fun _ _ _ h => h) (Or.inl ⟨by rfl, ?_⟩) (by assumption) ?_
        rotate_left 1
        · (intro wS hSw; (try dsimp only at hSw); go_simp; try (with_reducible rfl))
        (try simp only [Act.put, List.setIfInBounds_toArray, List.set_cons_zero, List.set_cons_succ])
        refine wpAnyH_take (i := 2) (oi := { dst := some 19, op := Op.binOp BinOp.shl 3 (Operand.tmp 17) (Operand.tmp 18) 3, type := 3, pos := "l03_pack.go:340", after := #[{ on := 0, ground := Ground.data }, { on := 1, ground := Ground.data }], guard := none }) (v := ?_) rfl (by kernel_rfl) (by kernel_rfl) (by kernel_rfl) (fun _ _ _ h => h) (Or.inl ⟨by rfl, ?_⟩) (by assumption) ?_
        rotate_left 1
        · (intro wS hSw; (try dsimp only at hSw); go_simp; try (with_reducible rfl))
        (try simp only [Act.put, List.setIfInBounds_toArray, List.set_cons_zero, List.set_cons_succ])
        refine wpAnyH_take (i := 3) (oi := { dst := some 20, op := Op.move (Operand.tmp 0), type := 66, pos := "l03_pack.go:340", after := #[], guard := none }) (v := ?_) rfl (by kernel_rfl) (by kernel_rfl) (by kernel_rfl) (fun _ _ _ h => h) (Or.inl ⟨by rfl, ?_⟩) (by assumption) ?_
        rotate_left 1
        · (intro wS hSw; (try dsimp only at hSw); go_simp; try (with_reducible rfl))
        (try simp only [Act.put, List.setIfInBounds_toArray, List.set_cons_zero, List.set_cons_succ])
        refine wpAnyH_take (i := 4) (oi := { dst := some 21, op := Op.move (Operand.tmp 8), type := 3, pos := "l03_pack.go:340", after := #[], guard := none }) (v := ?_) rfl (by kernel_rfl) (by kernel_rfl) (by kernel_rfl) (fun _ _ _ h => h) (Or.inl ⟨by rfl, ?_⟩) (by assumption) ?_
        rotate_left 1
        · (intro wS hSw; (try dsimp only at hSw); go_simp; try (with_reducible rfl))
        (try simp only [Act.put, List.setIfInBounds_toArray, List.set_cons_zero, List.set_cons_succ])
        refine wpAnyH_take (i := 7) (oi := { dst := some 24, op := Op.fieldAddr 72 (Operand.tmp 7) 2, type := 0, pos := "l03_pack.go:340", after := #[{ on := 9, ground := Ground.gcOnly Departure.lateStores }], guard := none }) (v := ?_) rfl (by kernel_rfl) (by kernel_rfl) (by kernel_rfl) (fun _ _ _ h => h) (Or.inl ⟨by rfl, ?_⟩) (by assumption) ?_
        rotate_left 1
        · (intro wS hSw; (try dsimp only at hSw); go_simp; try (with_reducible rfl))
        (try simp only [Act.put, List.setIfInBounds_toArray, List.set_cons_zero, List.set_cons_succ])
        refine wpAnyH_take (i := 8) (oi := { dst := some 25, op := Op.load 3 (Operand.tmp 24), type := 3, pos := "l03_pack.go:340", after := #[{ on := 7, ground := Ground.data }, { on := 9, ground := Ground.gcOnly Departure.lateStores }], guard := none }) (v := ?_) rfl (by kernel_rfl) (by kernel_rfl) (by kernel_rfl) (fun _ _ _ h => h) (Or.inl ⟨by rfl, ?_⟩) (by assumption) ?_
        rotate_left 1
        · (intro wS hSw; (try dsimp only at hSw); go_simp; try (with_reducible rfl))
        (try simp only [Act.put, List.setIfInBounds_toArray, List.set_cons_zero, List.set_cons_succ])
        refine wpAnyH_ready (rs := [5]) (by kernel_rfl) (by simp) ?_
        refine AllReadyH.cons (o := { dst := some 22, op := Op.call { callee := Callee.value (Operand.func 44), args := #[Operand.tmp 20, Operand.tmp 21], argTypes := #[66, 3] }, type := 3, pos := "l03_pack.go:340", after := #[{ on := 3, ground := Ground.data }, { on := 4, ground := Ground.data }], guard := none }) rfl (fun K hK => ?_) AllReadyH.nil
        go_simp
        refine (HC.out W1.drew R1).mono ?_
        rintro e x1 ⟨rfl, M1, L2⟩
        have hl := symLen_ge s a
        exact ⟨rfl, ⟨fun _ => rfl, fun h => absurd (by omega) h, fun h => absurd (by omega) h⟩, L1.drew.trans (Bt.of M1 L2)⟩
      · have HT : Hid (∀ W : World, RdI c s a v W → Calls Tryd.prog 44 #[.pointer (some ⟨c, 0, none⟩), .int .i64 7] W fun e w' => e = .returned (.int .i64 (topAt s a 7 : Nat)) ∧ RdI c s (a + 7) v w' ∧ Mv c W w' ∧ Below 0 W w') := fun W h => topI_ok 0 c s a 7 v W hs (Nat.zero_le _) (by omega) (by omega) h
        go_region_held3 (fun w' => w'.cell? ⟨wr.heap.size, 2, none⟩ = some (.int .i64 7)) (go_keep) (first
          | (go_at_call 44; refine (HT.out _ ?_).mono ?_; (first | exact R1 | exact R1.drewN 1); rintro e x5 ⟨rfl, R5, M5, L5⟩; have B5 : Bt c w x5 := (by first | exact L1.trans (Bt.of M5 L5) | exact L1.drew.trans (Bt.of M5 L5) | exact (L1.drewN _).trans (Bt.of M5 L5)); have mR5 : x5.heap[wr.heap.size]? = some (.cells #[.int .i64 256, .int .i64 279, .int .i64 7, .int .i64 0] 72) := (M5.2 _ hne).trans mR; have t5 : x5.cell? ⟨wr.heap.size, 2, none⟩ = some (.int .i64 7) := cell_at mR5 2))
        all_goals
          have hor := or_0 (topAt s a 7) (by omega)
          rw [hor]
          have g8 := HE8.out; have g9 := HE9.out
          have hw1 : IntKind.i64.wrap ((256 : Int) + (topAt s a 7 : Nat)) = (256 : Int) + (topAt s a 7 : Nat) := by rw [IntKind.wrap_i64]; omega
          have hw2 : IntKind.i64.wrap ((256 : Int) + (topAt s a 7 : Nat)) = (256 : Int) + (topAt s a 7 : Nat) := by rw [IntKind.wrap_i64]; omega
          have hen : (256 : Int) + (topAt s a 7 : Nat) = ((256 + topAt s a 7 : Nat) : Int) := by omega
          have HEN : Hid (_) := hen; clear hen
          have HG8 : Hid (_) := g8; have HG9 : Hid (_) := g9; clear g8 g9 HE8 HE9
          have c0 : x5.cell? ⟨wr.heap.size, 0, none⟩ = some (.int .i64 256) := cell_at mR5 0
          have c1 : x5.cell? ⟨wr.heap.size, 1, none⟩ = some (.int .i64 279) := cell_at mR5 1
          have c3 : x5.cell? ⟨wr.heap.size, 3, none⟩ = some (.int .i64 0) := cell_at mR5 3
          have HR5 : Hid (_) := R5; clear hor
          clear L1 mR R1 hc2 HT M5 L5 t5 mR5 R5 R0 hix L
          by_cases hbr : topAt s a 7 < 24
          · skip
            have hsy := sym_0 s a hbr
            have hd : ((256 : Int) + (topAt s a 7 : Nat) ≤ 279) := by omega
            have hq : ¬ ((285 : Int) < (256 : Int) + (topAt s a 7 : Nat)) := by omega
            go_wp2_with fail
            refine (HRF.out _).mono ?_
            rintro e x6 ⟨rfl, rfl⟩
            go_wp2
            go_ret
            exact ⟨⟨fun h => absurd h (by omega), fun _ h => absurd h (by omega), fun _ _ => ⟨by rw [hsy.1, ← HEN.out]; rfl, by rw [hsy.2]; exact HR5.out⟩⟩, B5⟩
          · have hd : ¬ ((256 : Int) + (topAt s a 7 : Nat) ≤ 279) := by omega
            go_wp2
            have R5 := HR5.out
            go_roundw
            case rel => exact ⟨1, by omega, by rfl, fun h => by omega, fun _ => ⟨rfl, rfl, R5, by omega, by omega⟩, fun h => by omega, fun h => by omega, B5⟩
            case measure => simp [intOf]
    · obtain ⟨rfl, rfl, R0, ha7, h24⟩ := h1 rfl
      clear h0 h1 h2 h3
      rw [show ((1 : Nat) : Int) = 1 from rfl]
      have hix := run_at1 wr
      have hne : wr.heap.size ≠ c := fun h => by have := lt_of (show wr.heap[c]? = some _ from R0); omega
      have L1 := L.out.alloc (.cells #[.int .i64 0, .int .i64 143, .int .i64 8, .int .i64 48] 72)
      have mR := heap_new wr (.cells #[.int .i64 0, .int .i64 143, .int .i64 8, .int .i64 48] 72)
      have R1 := R0.alloc (.cells #[.int .i64 0, .int .i64 143, .int .i64 8, .int .i64 48] 72)
      have HE8 : Hid (topAt s a 8 = 2 * topAt s a 7 + bitAt s (a + 7)) := rfl
      have HE9 : Hid (topAt s a 9 = 2 * topAt s a 8 + bitAt s (a + 8)) := rfl
      have hb7 := Math.bitAt_le s (a + 7); have hb8 := Math.bitAt_le s (a + 8)
      have hx7 := Math.topAt_lt s a 7; have hx8 := Math.topAt_lt s a 8; have hx9 := Math.topAt_lt s a 9
      have hc2 : (wr.alloc (.cells #[.int .i64 0, .int .i64 143, .int .i64 8, .int .i64 48] 72)).cell? ⟨wr.heap.size, 2, none⟩ = some (.int .i64 8) := cell_at mR 2
      go_wp2
      generalize HW1 : wr.alloc (.cells #[.int .i64 0, .int .i64 143, .int .i64 8, .int .i64 48] 72) = W1 at *
      by_cases hcut : 8 * s.size < (a + 7) + 1
      · have HC : Hid (∀ W : World, RdI c s (a + 7) v W → Calls Tryd.prog 44 #[.pointer (some ⟨c, 0, none⟩), .int .i64 1] W fun e w' => e = fault 1 ∧ Mv c W w' ∧ Below 0 W w') := fun W h => topI_cut 0 c s (a + 7) 1 v W hs (Nat.zero_le _) (by omega) (by omega) hcut h
        refine wp_region_held_drew (S := (fun w' => w'.cell? ⟨wr.heap.size, 2, none⟩ = some (.int .i64 8))) (by kernel_rfl) ?_ (fun hHeld => ?_)
        · exact hc2
        refine wpAnyH_take (i := 0) (oi := { dst := some 17, op := Op.move (Operand.tmp 3), type := 3, pos := "l03_pack.go:340", after := #[], guard := none }) (v := ?_) rfl (by kernel_rfl) (by kernel_rfl) (by kernel_rfl) (fun _ _ _ h => h) (Or.inl ⟨by rfl, ?_⟩) (by assumption) ?_
        rotate_left 1
        · (intro wS hSw; (try dsimp only at hSw); go_simp; try (with_reducible rfl))
        (try simp only [Act.put, List.setIfInBounds_toArray, List.set_cons_zero, List.set_cons_succ])
        refine wpAnyH_take (i := 1) (oi := { dst := some 18, op := Op.move (Operand.tmp 8), type := 3, pos := "l03_pack.go:340", after := #[], guard := none }) (v := ?_) rfl (by kernel_rfl) (by kernel_rfl) (by kernel_rfl) (fun _ _ _ h => h) (Or.inl ⟨by rfl, ?_⟩) (by assumption) ?_
        rotate_left 1
        · (intro wS hSw; (try dsimp only at hSw); go_simp; try (with_reducible rfl))
        (try simp only [Act.put, List.setIfInBounds_toArray, List.set_cons_zero, List.set_cons_succ])
        refine wpAnyH_take (i := 2) (oi := { dst := some 19, op := Op.binOp BinOp.shl 3 (Operand.tmp 17) (Operand.tmp 18) 3, type := 3, pos := "l03_pack.go:340", after := #[{ on := 0, ground := Ground.data }, { on := 1, ground := Ground.data }], guard := none }) (v := ?_) rfl (by kernel_rfl) (by kernel_rfl) (by kernel_rfl) (fun _ _ _ h => h) (Or.inl ⟨by rfl, ?_⟩) (by assumption) ?_
        rotate_left 1
        · (intro wS hSw; (try dsimp only at hSw); go_simp; try (with_reducible rfl))
        (try simp only [Act.put, List.setIfInBounds_toArray, List.set_cons_zero, List.set_cons_succ])
        refine wpAnyH_take (i := 3) (oi := { dst := some 20, op := Op.move (Operand.tmp 0), type := 66, pos := "l03_pack.go:340", after := #[], guard := none }) (v := ?_) rfl (by kernel_rfl) (by kernel_rfl) (by kernel_rfl) (fun _ _ _ h => h) (Or.inl ⟨by rfl, ?_⟩) (by assumption) ?_
        rotate_left 1
        · (intro wS hSw; (try dsimp only at hSw); go_simp; try (with_reducible rfl))
        (try simp only [Act.put, List.setIfInBounds_toArray, List.set_cons_zero, List.set_cons_succ])
        refine wpAnyH_take (i := 4) (oi := { dst := some 21, op := Op.move (Operand.tmp 8), type := 3, pos := "l03_pack.go:340", after := #[], guard := none }) (v := ?_) rfl (by kernel_rfl) (by kernel_rfl) (by kernel_rfl) (fun _ _ _ h => h) (Or.inl ⟨by rfl, ?_⟩) (by assumption) ?_
        rotate_left 1
        · (intro wS hSw; (try dsimp only at hSw); go_simp; try (with_reducible rfl))
        (try simp only [Act.put, List.setIfInBounds_toArray, List.set_cons_zero, List.set_cons_succ])
        refine wpAnyH_take (i := 7) (oi := { dst := some 24, op := Op.fieldAddr 72 (Operand.tmp 7) 2, type := 0, pos := "l03_pack.go:340", after := #[{ on := 9, ground := Ground.gcOnly Departure.lateStores }], guard := none }) (v := ?_) rfl (by kernel_rfl) (by kernel_rfl) (by kernel_rfl) (fun _ _ _ h => h) (Or.inl ⟨by rfl, ?_⟩) (by assumption) ?_
        rotate_left 1
        · (intro wS hSw; (try dsimp only at hSw); go_simp; try (with_reducible rfl))
        (try simp only [Act.put, List.setIfInBounds_toArray, List.set_cons_zero, List.set_cons_succ])
        refine wpAnyH_take (i := 8) (oi := { dst := some 25, op := Op.load 3 (Operand.tmp 24), type := 3, pos := "l03_pack.go:340", after := #[{ on := 7, ground := Ground.data }, { on := 9, ground := Ground.gcOnly Departure.lateStores }], guard := none }) (v := ?_) rfl (by kernel_rfl) (by kernel_rfl) (by kernel_rfl) (fun _ _ _ h => h) (Or.inl ⟨by rfl, ?_⟩) (by assumption) ?_
        rotate_left 1
        · (intro wS hSw; (try dsimp only at hSw); go_simp; try (with_reducible rfl))
        (try simp only [Act.put, List.setIfInBounds_toArray, List.set_cons_zero, List.set_cons_succ])
        refine wpAnyH_ready (rs := [5]) (by kernel_rfl) (by simp) ?_
        refine AllReadyH.cons (o := { dst := some 22, op := Op.call { callee := Callee.value (Operand.func 44), args := #[Operand.tmp 20, Operand.tmp 21], argTypes := #[66, 3] }, type := 3, pos := "l03_pack.go:340", after := #[{ on := 3, ground := Ground.data }, { on := 4, ground := Ground.data }], guard := none }) rfl (fun K hK => ?_) AllReadyH.nil
        go_simp
        refine (HC.out W1.drew R1).mono ?_
        rintro e x1 ⟨rfl, M1, L2⟩
        have hl := len_8 s a h24
        exact ⟨rfl, ⟨fun _ => rfl, fun h => absurd (by omega) h, fun h => absurd (by omega) h⟩, L1.drew.trans (Bt.of M1 L2)⟩
      · have HT : Hid (∀ W : World, RdI c s (a + 7) v W → Calls Tryd.prog 44 #[.pointer (some ⟨c, 0, none⟩), .int .i64 1] W fun e w' => e = .returned (.int .i64 (topAt s (a + 7) 1 : Nat)) ∧ RdI c s ((a + 7) + 1) v w' ∧ Mv c W w' ∧ Below 0 W w') := fun W h => topI_ok 0 c s (a + 7) 1 v W hs (Nat.zero_le _) (by omega) (by omega) h
        go_region_held3 (fun w' => w'.cell? ⟨wr.heap.size, 2, none⟩ = some (.int .i64 8)) (go_keep) (first
          | (go_at_call 44; refine (HT.out _ ?_).mono ?_; (first | exact R1 | exact R1.drewN 1); rintro e x5 ⟨rfl, R5, M5, L5⟩; have B5 : Bt c w x5 := (by first | exact L1.trans (Bt.of M5 L5) | exact L1.drew.trans (Bt.of M5 L5) | exact (L1.drewN _).trans (Bt.of M5 L5)); have mR5 : x5.heap[wr.heap.size]? = some (.cells #[.int .i64 0, .int .i64 143, .int .i64 8, .int .i64 48] 72) := (M5.2 _ hne).trans mR; have t5 : x5.cell? ⟨wr.heap.size, 2, none⟩ = some (.int .i64 8) := cell_at mR5 2))
        all_goals
          have hor := or_s1 s a 7 (by omega)
          rw [hor]
          rw [show topAt s a (7 + 1) = topAt s a 8 from rfl]
          have g8 := HE8.out; have g9 := HE9.out
          have hw1 : IntKind.i64.wrap ((0 : Int) + (topAt s a 8 : Nat)) = (0 : Int) + (topAt s a 8 : Nat) := by rw [IntKind.wrap_i64]; omega
          have hw2 : IntKind.i64.wrap (((topAt s a 8 : Nat) : Int) - 48) = ((topAt s a 8 : Nat) : Int) - 48 := by rw [IntKind.wrap_i64]; omega
          have hen : ((topAt s a 8 : Nat) : Int) - 48 = ((topAt s a 8 - 48 : Nat) : Int) := by omega
          have HEN : Hid (_) := hen; clear hen
          have HG8 : Hid (_) := g8; have HG9 : Hid (_) := g9; clear g8 g9 HE8 HE9
          have c0 : x5.cell? ⟨wr.heap.size, 0, none⟩ = some (.int .i64 0) := cell_at mR5 0
          have c1 : x5.cell? ⟨wr.heap.size, 1, none⟩ = some (.int .i64 143) := cell_at mR5 1
          have c3 : x5.cell? ⟨wr.heap.size, 3, none⟩ = some (.int .i64 48) := cell_at mR5 3
          have HR5 : Hid (_) := R5; clear hor
          clear L1 mR R1 hc2 HT M5 L5 t5 mR5 R5 R0 hix L
          by_cases hbr : topAt s a 8 < 192
          · skip
            have hsy := sym_1 s a h24 hbr
            have hd : (((topAt s a 8 : Nat) : Int) - 48 ≤ 143) := by omega
            have hq : ¬ ((285 : Int) < ((topAt s a 8 : Nat) : Int) - 48) := by omega
            go_wp2_with fail
            refine (HRF.out _).mono ?_
            rintro e x6 ⟨rfl, rfl⟩
            go_wp2
            go_ret
            exact ⟨⟨fun h => absurd h (by omega), fun _ h => absurd h (by omega), fun _ _ => ⟨by rw [hsy.1, ← HEN.out]; rfl, by rw [hsy.2]; exact HR5.out⟩⟩, B5⟩
          · have hd : ¬ (((topAt s a 8 : Nat) : Int) - 48 ≤ 143) := by omega
            go_wp2
            have R5 := HR5.out
            go_roundw
            case rel => exact ⟨2, by omega, by rfl, fun h => by omega, fun h => by omega, fun _ => ⟨rfl, rfl, R5, by omega, h24, by omega⟩, fun h => by omega, B5⟩
            case measure => simp [intOf]
    · obtain ⟨rfl, rfl, R0, ha7, h24, h192⟩ := h2 rfl
      clear h0 h1 h2 h3
      rw [show ((2 : Nat) : Int) = 2 from rfl]
      have hix := run_at2 wr
      have hne : wr.heap.size ≠ c := fun h => by have := lt_of (show wr.heap[c]? = some _ from R0); omega
      have L1 := L.out.alloc (.cells #[.int .i64 280, .int .i64 287, .int .i64 8, .int .i64 192] 72)
      have mR := heap_new wr (.cells #[.int .i64 280, .int .i64 287, .int .i64 8, .int .i64 192] 72)
      have R1 := R0.alloc (.cells #[.int .i64 280, .int .i64 287, .int .i64 8, .int .i64 192] 72)
      have HE8 : Hid (topAt s a 8 = 2 * topAt s a 7 + bitAt s (a + 7)) := rfl
      have HE9 : Hid (topAt s a 9 = 2 * topAt s a 8 + bitAt s (a + 8)) := rfl
      have hb7 := Math.bitAt_le s (a + 7); have hb8 := Math.bitAt_le s (a + 8)
      have hx7 := Math.topAt_lt s a 7; have hx8 := Math.topAt_lt s a 8; have hx9 := Math.topAt_lt s a 9
      have hc2 : (wr.alloc (.cells #[.int .i64 280, .int .i64 287, .int .i64 8, .int .i64 192] 72)).cell? ⟨wr.heap.size, 2, none⟩ = some (.int .i64 8) := cell_at mR 2
      go_wp2
      generalize HW1 : wr.alloc (.cells #[.int .i64 280, .int .i64 287, .int .i64 8, .int .i64 192] 72) = W1 at *
      · have HT : Hid (∀ W : World, RdI c s (a + 8) v W → Calls Tryd.prog 44 #[.pointer (some ⟨c, 0, none⟩), .int .i64 0] W fun e w' => e = .returned (.int .i64 (topAt s (a + 8) 0 : Nat)) ∧ RdI c s ((a + 8) + 0) v w' ∧ Mv c W w' ∧ Below 0 W w') := fun W h => topI_ok 0 c s (a + 8) 0 v W hs (Nat.zero_le _) (by omega) (by omega) h
        go_region_held3 (fun w' => w'.cell? ⟨wr.heap.size, 2, none⟩ = some (.int .i64 8)) (go_keep) (first
          | (go_at_call 44; refine (HT.out _ ?_).mono ?_; (first | exact R1 | exact R1.drewN 1); rintro e x5 ⟨rfl, R5, M5, L5⟩; have B5 : Bt c w x5 := (by first | exact L1.trans (Bt.of M5 L5) | exact L1.drew.trans (Bt.of M5 L5) | exact (L1.drewN _).trans (Bt.of M5 L5)); have mR5 : x5.heap[wr.heap.size]? = some (.cells #[.int .i64 280, .int .i64 287, .int .i64 8, .int .i64 192] 72) := (M5.2 _ hne).trans mR; have t5 : x5.cell? ⟨wr.heap.size, 2, none⟩ = some (.int .i64 8) := cell_at mR5 2))
        all_goals
          have hor := or_s2 s a
          rw [hor]
          have g8 := HE8.out; have g9 := HE9.out
          have hw1 : IntKind.i64.wrap ((280 : Int) + (topAt s a 8 : Nat)) = (280 : Int) + (topAt s a 8 : Nat) := by rw [IntKind.wrap_i64]; omega
          have hw2 : IntKind.i64.wrap ((280 : Int) + (topAt s a 8 : Nat) - 192) = (280 : Int) + (topAt s a 8 : Nat) - 192 := by rw [IntKind.wrap_i64]; omega
          have hen : (280 : Int) + (topAt s a 8 : Nat) - 192 = ((280 + topAt s a 8 - 192 : Nat) : Int) := by omega
          have HEN : Hid (_) := hen; clear hen
          have HG8 : Hid (_) := g8; have HG9 : Hid (_) := g9; clear g8 g9 HE8 HE9
          have c0 : x5.cell? ⟨wr.heap.size, 0, none⟩ = some (.int .i64 280) := cell_at mR5 0
          have c1 : x5.cell? ⟨wr.heap.size, 1, none⟩ = some (.int .i64 287) := cell_at mR5 1
          have c3 : x5.cell? ⟨wr.heap.size, 3, none⟩ = some (.int .i64 192) := cell_at mR5 3
          have HR5 : Hid (_) := R5; clear hor
          clear L1 mR R1 hc2 HT M5 L5 t5 mR5 R5 R0 hix L
          by_cases hbr : topAt s a 8 < 200
          · skip
            have hsy := sym_2 s a h24 h192 hbr
            have hd : ((280 : Int) + (topAt s a 8 : Nat) - 192 ≤ 287) := by omega
            by_cases h285 : 285 < 280 + topAt s a 8 - 192
            · have hq : ((285 : Int) < (280 : Int) + (topAt s a 8 : Nat) - 192) := by omega
              go_wp2_with fail
              refine (HRY.out _).mono ?_
              rintro e x6 ⟨rfl, rfl⟩
              exact ⟨rfl, ⟨fun h => absurd h (by omega), fun _ _ => rfl, fun _ h => absurd (by omega) h⟩, B5⟩
            · skip
              have hq : ¬ ((285 : Int) < (280 : Int) + (topAt s a 8 : Nat) - 192) := by omega
              go_wp2_with fail
              refine (HRF.out _).mono ?_
              rintro e x6 ⟨rfl, rfl⟩
              go_wp2
              go_ret
              exact ⟨⟨fun h => absurd h (by omega), fun _ h => absurd h (by omega), fun _ _ => ⟨by rw [hsy.1, ← HEN.out]; rfl, by rw [hsy.2]; exact HR5.out⟩⟩, B5⟩
          · have hd : ¬ ((280 : Int) + (topAt s a 8 : Nat) - 192 ≤ 287) := by omega
            go_wp2
            have R5 := HR5.out
            go_roundw
            case rel => exact ⟨3, by omega, by rfl, fun h => by omega, fun h => by omega, fun h => by omega, fun _ => ⟨rfl, rfl, R5, by omega, h24, by omega⟩, B5⟩
            case measure => simp [intOf]
    · obtain ⟨rfl, rfl, R0, ha7, h24, h200⟩ := h3 rfl
      clear h0 h1 h2 h3
      rw [show ((3 : Nat) : Int) = 3 from rfl]
      have hix := run_at3 wr
      have hne : wr.heap.size ≠ c := fun h => by have := lt_of (show wr.heap[c]? = some _ from R0); omega
      have L1 := L.out.alloc (.cells #[.int .i64 144, .int .i64 255, .int .i64 9, .int .i64 400] 72)
      have mR := heap_new wr (.cells #[.int .i64 144, .int .i64 255, .int .i64 9, .int .i64 400] 72)
      have R1 := R0.alloc (.cells #[.int .i64 144, .int .i64 255, .int .i64 9, .int .i64 400] 72)
      have HE8 : Hid (topAt s a 8 = 2 * topAt s a 7 + bitAt s (a + 7)) := rfl
      have HE9 : Hid (topAt s a 9 = 2 * topAt s a 8 + bitAt s (a + 8)) := rfl
      have hb7 := Math.bitAt_le s (a + 7); have hb8 := Math.bitAt_le s (a + 8)
      have hx7 := Math.topAt_lt s a 7; have hx8 := Math.topAt_lt s a 8; have hx9 := Math.topAt_lt s a 9
      have hc2 : (wr.alloc (.cells #[.int .i64 144, .int .i64 255, .int .i64 9, .int .i64 400] 72)).cell? ⟨wr.heap.size, 2, none⟩ = some (.int .i64 9) := cell_at mR 2
      go_wp2
      generalize HW1 : wr.alloc (.cells #[.int .i64 144, .int .i64 255, .int .i64 9, .int .i64 400] 72) = W1 at *
      by_cases hcut : 8 * s.size < (a + 8) + 1
      · have HC : Hid (∀ W : World, RdI c s (a + 8) v W → Calls Tryd.prog 44 #[.pointer (some ⟨c, 0, none⟩), .int .i64 1] W fun e w' => e = fault 1 ∧ Mv c W w' ∧ Below 0 W w') := fun W h => topI_cut 0 c s (a + 8) 1 v W hs (Nat.zero_le _) (by omega) (by omega) hcut h
        refine wp_region_held_drew (S := (fun w' => w'.cell? ⟨wr.heap.size, 2, none⟩ = some (.int .i64 9))) (by kernel_rfl) ?_ (fun hHeld => ?_)
        · exact hc2
        refine wpAnyH_take (i := 0) (oi := { dst := some 17, op := Op.move (Operand.tmp 3), type := 3, pos := "l03_pack.go:340", after := #[], guard := none }) (v := ?_) rfl (by kernel_rfl) (by kernel_rfl) (by kernel_rfl) (fun _ _ _ h => h) (Or.inl ⟨by rfl, ?_⟩) (by assumption) ?_
        rotate_left 1
        · (intro wS hSw; (try dsimp only at hSw); go_simp; try (with_reducible rfl))
        (try simp only [Act.put, List.setIfInBounds_toArray, List.set_cons_zero, List.set_cons_succ])
        refine wpAnyH_take (i := 1) (oi := { dst := some 18, op := Op.move (Operand.tmp 8), type := 3, pos := "l03_pack.go:340", after := #[], guard := none }) (v := ?_) rfl (by kernel_rfl) (by kernel_rfl) (by kernel_rfl) (fun _ _ _ h => h) (Or.inl ⟨by rfl, ?_⟩) (by assumption) ?_
        rotate_left 1
        · (intro wS hSw; (try dsimp only at hSw); go_simp; try (with_reducible rfl))
        (try simp only [Act.put, List.setIfInBounds_toArray, List.set_cons_zero, List.set_cons_succ])
        refine wpAnyH_take (i := 2) (oi := { dst := some 19, op := Op.binOp BinOp.shl 3 (Operand.tmp 17) (Operand.tmp 18) 3, type := 3, pos := "l03_pack.go:340", after := #[{ on := 0, ground := Ground.data }, { on := 1, ground := Ground.data }], guard := none }) (v := ?_) rfl (by kernel_rfl) (by kernel_rfl) (by kernel_rfl) (fun _ _ _ h => h) (Or.inl ⟨by rfl, ?_⟩) (by assumption) ?_
        rotate_left 1
        · (intro wS hSw; (try dsimp only at hSw); go_simp; try (with_reducible rfl))
        (try simp only [Act.put, List.setIfInBounds_toArray, List.set_cons_zero, List.set_cons_succ])
        refine wpAnyH_take (i := 3) (oi := { dst := some 20, op := Op.move (Operand.tmp 0), type := 66, pos := "l03_pack.go:340", after := #[], guard := none }) (v := ?_) rfl (by kernel_rfl) (by kernel_rfl) (by kernel_rfl) (fun _ _ _ h => h) (Or.inl ⟨by rfl, ?_⟩) (by assumption) ?_
        rotate_left 1
        · (intro wS hSw; (try dsimp only at hSw); go_simp; try (with_reducible rfl))
        (try simp only [Act.put, List.setIfInBounds_toArray, List.set_cons_zero, List.set_cons_succ])
        refine wpAnyH_take (i := 4) (oi := { dst := some 21, op := Op.move (Operand.tmp 8), type := 3, pos := "l03_pack.go:340", after := #[], guard := none }) (v := ?_) rfl (by kernel_rfl) (by kernel_rfl) (by kernel_rfl) (fun _ _ _ h => h) (Or.inl ⟨by rfl, ?_⟩) (by assumption) ?_
        rotate_left 1
        · (intro wS hSw; (try dsimp only at hSw); go_simp; try (with_reducible rfl))
        (try simp only [Act.put, List.setIfInBounds_toArray, List.set_cons_zero, List.set_cons_succ])
        refine wpAnyH_take (i := 7) (oi := { dst := some 24, op := Op.fieldAddr 72 (Operand.tmp 7) 2, type := 0, pos := "l03_pack.go:340", after := #[{ on := 9, ground := Ground.gcOnly Departure.lateStores }], guard := none }) (v := ?_) rfl (by kernel_rfl) (by kernel_rfl) (by kernel_rfl) (fun _ _ _ h => h) (Or.inl ⟨by rfl, ?_⟩) (by assumption) ?_
        rotate_left 1
        · (intro wS hSw; (try dsimp only at hSw); go_simp; try (with_reducible rfl))
        (try simp only [Act.put, List.setIfInBounds_toArray, List.set_cons_zero, List.set_cons_succ])
        refine wpAnyH_take (i := 8) (oi := { dst := some 25, op := Op.load 3 (Operand.tmp 24), type := 3, pos := "l03_pack.go:340", after := #[{ on := 7, ground := Ground.data }, { on := 9, ground := Ground.gcOnly Departure.lateStores }], guard := none }) (v := ?_) rfl (by kernel_rfl) (by kernel_rfl) (by kernel_rfl) (fun _ _ _ h => h) (Or.inl ⟨by rfl, ?_⟩) (by assumption) ?_
        rotate_left 1
        · (intro wS hSw; (try dsimp only at hSw); go_simp; try (with_reducible rfl))
        (try simp only [Act.put, List.setIfInBounds_toArray, List.set_cons_zero, List.set_cons_succ])
        refine wpAnyH_ready (rs := [5]) (by kernel_rfl) (by simp) ?_
        refine AllReadyH.cons (o := { dst := some 22, op := Op.call { callee := Callee.value (Operand.func 44), args := #[Operand.tmp 20, Operand.tmp 21], argTypes := #[66, 3] }, type := 3, pos := "l03_pack.go:340", after := #[{ on := 3, ground := Ground.data }, { on := 4, ground := Ground.data }], guard := none }) rfl (fun K hK => ?_) AllReadyH.nil
        go_simp
        refine (HC.out W1.drew R1).mono ?_
        rintro e x1 ⟨rfl, M1, L2⟩
        have hl := (sym_3 s a h24 h200).2
        exact ⟨rfl, ⟨fun _ => rfl, fun h => absurd (by omega) h, fun h => absurd (by omega) h⟩, L1.drew.trans (Bt.of M1 L2)⟩
      · have HT : Hid (∀ W : World, RdI c s (a + 8) v W → Calls Tryd.prog 44 #[.pointer (some ⟨c, 0, none⟩), .int .i64 1] W fun e w' => e = .returned (.int .i64 (topAt s (a + 8) 1 : Nat)) ∧ RdI c s ((a + 8) + 1) v w' ∧ Mv c W w' ∧ Below 0 W w') := fun W h => topI_ok 0 c s (a + 8) 1 v W hs (Nat.zero_le _) (by omega) (by omega) h
        go_region_held3 (fun w' => w'.cell? ⟨wr.heap.size, 2, none⟩ = some (.int .i64 9)) (go_keep) (first
          | (go_at_call 44; refine (HT.out _ ?_).mono ?_; (first | exact R1 | exact R1.drewN 1); rintro e x5 ⟨rfl, R5, M5, L5⟩; have B5 : Bt c w x5 := (by first | exact L1.trans (Bt.of M5 L5) | exact L1.drew.trans (Bt.of M5 L5) | exact (L1.drewN _).trans (Bt.of M5 L5)); have mR5 : x5.heap[wr.heap.size]? = some (.cells #[.int .i64 144, .int .i64 255, .int .i64 9, .int .i64 400] 72) := (M5.2 _ hne).trans mR; have t5 : x5.cell? ⟨wr.heap.size, 2, none⟩ = some (.int .i64 9) := cell_at mR5 2))
        all_goals
          have hor := or_s1 s a 8 (by omega)
          rw [hor]
          rw [show topAt s a (8 + 1) = topAt s a 9 from rfl]
          have g8 := HE8.out; have g9 := HE9.out
          have hw1 : IntKind.i64.wrap ((144 : Int) + (topAt s a 9 : Nat)) = (144 : Int) + (topAt s a 9 : Nat) := by rw [IntKind.wrap_i64]; omega
          have hw2 : IntKind.i64.wrap ((144 : Int) + (topAt s a 9 : Nat) - 400) = (144 : Int) + (topAt s a 9 : Nat) - 400 := by rw [IntKind.wrap_i64]; omega
          have hen : (144 : Int) + (topAt s a 9 : Nat) - 400 = ((144 + topAt s a 9 - 400 : Nat) : Int) := by omega
          have HEN : Hid (_) := hen; clear hen
          have HG8 : Hid (_) := g8; have HG9 : Hid (_) := g9; clear g8 g9 HE8 HE9
          have c0 : x5.cell? ⟨wr.heap.size, 0, none⟩ = some (.int .i64 144) := cell_at mR5 0
          have c1 : x5.cell? ⟨wr.heap.size, 1, none⟩ = some (.int .i64 255) := cell_at mR5 1
          have c3 : x5.cell? ⟨wr.heap.size, 3, none⟩ = some (.int .i64 400) := cell_at mR5 3
          have HR5 : Hid (_) := R5; clear hor
          clear L1 mR R1 hc2 HT M5 L5 t5 mR5 R5 R0 hix L
          have hsy := sym_3 s a h24 h200
          have hd : ((144 : Int) + (topAt s a 9 : Nat) - 400 ≤ 255) := by omega
          have hq : ¬ ((285 : Int) < (144 : Int) + (topAt s a 9 : Nat) - 400) := by omega
          go_wp2_with fail
          refine (HRF.out _).mono ?_
          rintro e x6 ⟨rfl, rfl⟩
          go_wp2
          go_ret
          exact ⟨⟨fun h => absurd h (by omega), fun _ h => absurd h (by omega), fun _ _ => ⟨by rw [hsy.1, ← HEN.out]; rfl, by rw [hsy.2]; exact HR5.out⟩⟩, B5⟩

end Pk
end Go.Proofs.YtcifgableeeooalDoor

/- All seats of a train, and those that are free, of the program and of the model. -/
import Derived.Test.YtiollklighmojadSeSeats
import Derived.Test.YtiollklighmojadSeFree
import Derived.Test.YtiollklighmojadSeKeep
import Derived.Test.YtiollklighmojadSeRel
namespace Go.Proofs.Ytiollklighmojad
namespace Se
open Go.ChangeShapes Go.WideShapes Go.ChangeAt Go.RowKit
open Tn (Hd St trV trB Stops runsB okB)
open Pk (new_below join_below cell_at heap_new frozen_at lt_of kept heap_old Drawn info_of own_form own_below Room)
set_option linter.unusedSimpArgs false
set_option linter.unusedVariables false

theorem own_wide {w : World} {base base' e size : Nat} {v : Value} {n : Nat} {xs : List Value} (h : w.ownsRow base e size v n xs) (hb : base' ≤ base) : w.ownsRow base' e size v n xs := by
  obtain ⟨h1, h2⟩ := h
  refine ⟨h1, ?_⟩
  rcases h2 with h2 | ⟨g, cap, cur, hv, hg, hh, hr⟩
  · exact Or.inl h2
  · exact Or.inr ⟨g, cap, cur, hv, Nat.le_trans hb hg, hh, hr⟩

set_option maxRecDepth 100000 in
set_option maxHeartbeats 8000000 in
theorem specAll_val (t : Hd) (ta : Option Addr) (tn tc : Nat) (day x y : Int) (C N : Nat) (w : World) (hco : t.co = (C : Int)) (hse : t.se = (N : Int)) (hC : C ≤ 20) (hN : N ≤ 90) (la : Option Addr) (l : List Hl) (lc : Nat) (hl : l.length ≤ maxLen) (IL : Holds w la l) :
    Calls Try.prog 100 #[.slice la l.length lc, trV t ta tn tc, .int .i64 day, .int .i64 x, .int .i64 y] w fun e w' => ∃ v, e = .returned v ∧ w'.ownsRow w.heap.size 77 7 v (freeL l t day x y).length (hcells (freeL l t day x y)) ∧ Below w.heap.size w w' := by
  obtain ⟨i0, hi, hz0, hz1, hz2⟩ := info_of info_hold
  have hcc : t.co.toNat = C := by rw [hco]; simp
  have hnn : t.se.toNat = N := by rw [hse]; simp
  have HCO : Hid (t.co = (C : Int)) := hco
  have HSE : Hid (t.se = (N : Int)) := hse
  have HCN : Hid (t.co.toNat = C) := hcc
  have HNN : Hid (t.se.toNat = N) := hnn
  clear hco hse hcc hnn
  have N0 := new_below w (trB t ta tn tc 26)
  have HB0 : Tbx (w.alloc (trB t ta tn tc 26)) w.heap.size t ta tn tc := Tbx.of (heap_new _ _)
  have hs0 : (w.alloc (trB t ta tn tc 26)).heap.size = w.heap.size + 1 := Array.size_push ..
  have O0 := nil_own (w.alloc (trB t ta tn tc 26)) 77
  have N1 := new_below (w.alloc (trB t ta tn tc 26)) (.cells #[] 77)
  have LA := join_below N0 N1
  have hzA : w.heap.size < ((w.alloc (trB t ta tn tc 26)).alloc (.cells #[] 77)).heap.size := by have := N1.size; omega
  have HBA : Hid (Tbx _ _ _ _ _ _) := HB0.on N1 (by omega)
  rw [hs0] at O0
  have OA : Hid (World.ownsRow _ _ _ _ _ _ _) := O0
  have HF : Hid (∀ p wx, Below w.heap.size w wx → _) := fun p wx (L : Below w.heap.size w wx) => specFree_val la l lc p wx hl (IL.on L)
  clear HB0 O0 N0 N1 hs0
  go_enter Try.func100, Try.ntmps100
  go_wp2
  generalize (w.alloc (trB t ta tn tc 26)).alloc (.cells #[] 77) = WA at *
  go_loopw [11, 12] (fun v i wr => ∃ (c q : Nat), Hid (q = c + 1) ∧ q ≤ C + 1 ∧ i = .int .i64 q ∧ Below w.heap.size w wr ∧ w.heap.size < wr.heap.size ∧ Hid (Tbx wr w.heap.size t ta tn tc) ∧ Hid (wr.ownsRow (w.heap.size + 1) 77 7 v ((pre t day x y N c 0).filter (freeB l)).length (hcells ((pre t day x y N c 0).filter (freeB l))))) (fun _ i _ => C + 1 - (intOf i).toNat)
  case atStart => exact ⟨0, 1, rfl, by omega, rfl, LA, hzA, HBA, OA⟩
  case round =>
    obtain ⟨c, q, HQ, hq, rfl, L, hz, HB, HO⟩ := hrel
    obtain ⟨va, vc, rfl, -⟩ := own_form HO.out
    by_cases hqn : q ≤ C
    · obtain ⟨b0, b1, b2, b3, b4⟩ := HB.out
      rw [HCO.out] at b2
      rw [HSE.out] at b3
      obtain ⟨W1, hW1⟩ : ∃ W1, W1 = wr := ⟨_, rfl⟩
      subst hW1
      go_wp2
      go_loopw [11, 13] (fun v i wr => ∃ (s r : Nat), Hid (r = s + 1) ∧ r ≤ N + 1 ∧ i = .int .i64 r ∧ Below w.heap.size w wr ∧ w.heap.size < wr.heap.size ∧ Hid (Tbx wr w.heap.size t ta tn tc) ∧ Hid (wr.ownsRow (w.heap.size + 1) 77 7 v ((pre t day x y N c s).filter (freeB l)).length (hcells ((pre t day x y N c s).filter (freeB l))))) (fun _ i _ => N + 1 - (intOf i).toNat)
      case atStart => exact ⟨0, 1, rfl, by omega, rfl, L, hz, HB, HO⟩
      case round =>
        obtain ⟨s, r, HR, hr, rfl, L2, hz2', HB2, HO2⟩ := hrel
        by_cases hrn : r ≤ N
        · clear b0 b1 b2 b3 b4
          obtain ⟨b0, b1, b2, b3, b4⟩ := HB2.out
          rw [HCO.out] at b2
          rw [HSE.out] at b3
          have HP : Hid (pre t day x y N c (s + 1) = pre t day x y N c s ++ [⟨t.id, day, (q : Int), (r : Int), x, y, 0⟩]) := by
            show _ = _
            rw [pre_next, HQ.out, HR.out]
            rfl
          have HLN : Hid ((pre t day x y N c s).length ≤ 4000) := by
            show _ ≤ _
            rw [pre_len]
            have h1 := HQ.out
            have h2 := HR.out
            have h3 : c * N ≤ 20 * 90 := Nat.mul_le_mul (by omega) hN
            omega
          have N4 := new_below wr (.cells #[.int .i64 t.id, .int .i64 day, .int .i64 (q : Int), .int .i64 (r : Int), .int .i64 x, .int .i64 y, .int .i64 0] 77)
          have HX : Hid (Bx (wr.alloc (.cells #[.int .i64 t.id, .int .i64 day, .int .i64 (q : Int), .int .i64 (r : Int), .int .i64 x, .int .i64 y, .int .i64 0] 77)) wr.heap.size ⟨t.id, day, (q : Int), (r : Int), x, y, 0⟩) := Bx.of (heap_new _ _)
          have hxz : wr.heap.size < (wr.alloc (.cells #[.int .i64 t.id, .int .i64 day, .int .i64 (q : Int), .int .i64 (r : Int), .int .i64 x, .int .i64 y, .int .i64 0] 77)).heap.size := by simp
          have HC : Hid (∀ wx, Below w.heap.size w wx → Calls Try.prog 138 #[.slice la l.length lc, .agg #[.int .i64 t.id, .int .i64 day, .int .i64 (q : Int), .int .i64 (r : Int), .int .i64 x, .int .i64 y, .int .i64 0]] wx fun e w' => e = .returned (.bool (freeB l ⟨t.id, day, (q : Int), (r : Int), x, y, 0⟩)) ∧ Below wx.heap.size wx w') := fun wx L => HF.out _ wx L
          have HT : Hid ((pre t day x y N c (s + 1)).filter (freeB l) = if freeB l ⟨t.id, day, (q : Int), (r : Int), x, y, 0⟩ = true then (pre t day x y N c s).filter (freeB l) ++ [⟨t.id, day, (q : Int), (r : Int), x, y, 0⟩] else (pre t day x y N c s).filter (freeB l)) := by
            show _ = _
            rw [HP.out, List.filter_append]
            by_cases e : freeB l ⟨t.id, day, (q : Int), (r : Int), x, y, 0⟩ = true
            · rw [if_pos e]
              simp [e]
            · rw [if_neg e]
              simp [e]
          have hf : ((pre t day x y N c s).filter (freeB l)).length ≤ 4000 := Nat.le_trans (List.length_filter_le _ _) HLN.out
          have O1 := own_below HO2.out N4 (Nat.le_refl _)
          have L4 := join_below L2 N4
          have HB4 := HB2.out.on N4 hz2'
          have hz4 : w.heap.size < (wr.alloc (.cells #[.int .i64 t.id, .int .i64 day, .int .i64 (q : Int), .int .i64 (r : Int), .int .i64 x, .int .i64 y, .int .i64 0] 77)).heap.size := by omega
          have HR2 : Hid (r + 1 = s + 1 + 1) := by show _ = _; rw [HR.out]
          obtain ⟨va2, vc2, rfl, -⟩ := own_form HO2.out
          clear HO HO2 HP HLN HB L hz HR
          by_cases e : freeB l ⟨t.id, day, (q : Int), (r : Int), x, y, 0⟩ = true
          · rw [e] at HC
            rw [if_pos e] at HT
            clear e
            go_wp2_with fail
            refine (HC.out _ L4).mono ?_
            rintro e w3 ⟨rfl, L3⟩
            have O3 := own_below O1 L3 (Nat.le_refl _)
            have L5 := join_below L4 L3
            have HB5 := HB4.on L3 hz4
            have hz5 := Nat.lt_of_lt_of_le hz4 L3.size
            have N6 := new_below w3 (.cells #[.int .i64 t.id, .int .i64 day, .int .i64 (q : Int), .int .i64 (r : Int), .int .i64 x, .int .i64 y, .int .i64 0] 77)
            have m6 := heap_new w3 (.cells #[.int .i64 t.id, .int .i64 day, .int .i64 (q : Int), .int .i64 (r : Int), .int .i64 x, .int .i64 y, .int .i64 0] 77)
            have O6 := own_below O3 N6 (Nat.le_refl _)
            have L6 := join_below L5 N6
            have HB6 := HB5.on N6 hz5
            have hz6 : w.heap.size < (w3.alloc (.cells #[.int .i64 t.id, .int .i64 day, .int .i64 (q : Int), .int .i64 (r : Int), .int .i64 x, .int .i64 y, .int .i64 0] 77)).heap.size := Nat.lt_of_lt_of_le hz5 N6.size
            obtain ⟨x0, x1, x2, x3, x4, x5, x6⟩ := HX.out.on L3 hxz
            clear O1 O3 L4 L3 L5 HB4 HB5 hz4 hz5 N4 N6 HX HC HB2 L2 hz2' b0 b1 b2 b3 b4 hxz
            generalize (pre t day x y N c s).filter (freeB l) = d at *
            go_wp2_with (at_builtin; refine wpList_append_own_at _ rfl _ _ 70 rfl (w.heap.size + 1) 77 i0 (lgV ⟨0, 0, 0, 0, 0, 0, 0⟩) 7 56 Try.underlying70 hi hz0 hz1 hz2 rfl (by decide) _ _ _ rfl O6 ⟨w3.heap.size, 0, none⟩ 1 1 (hc1 ⟨t.id, day, (q : Int), (r : Int), x, y, 0⟩) rfl rfl ?c1 ?c2 ?c3 ?c4 ?c5 ?_)
            case c1 => exact seven_at m6
            case c2 => intro u hu; simp [hc1] at hu; rcases hu with rfl | rfl | rfl | rfl | rfl | rfl | rfl <;> rfl
            case c3 => unfold maxLen; omega
            case c4 => omega
            case c5 => exact hz6
            intro v' w7 O7 G7 _ _
            have L7 : Below w.heap.size w w7 := L6.grown G7 (by omega) (fun j hj => Nat.le_trans (Nat.le_succ _) (O6.lt j hj).1)
            have HB7 : Hid (Tbx w7 w.heap.size t ta tn tc) := HB6.on (C := w.heap.size + 1) (Below.grown (Below.refl _ _) G7 hz6 (fun j hj => (O6.lt j hj).1)) (Nat.lt_succ_self _)
            have hz7 := Nat.lt_of_lt_of_le hz6 G7.size
            have O8 : Hid (w7.ownsRow (w.heap.size + 1) 77 7 v' ((pre t day x y N c (s + 1)).filter (freeB l)).length (hcells ((pre t day x y N c (s + 1)).filter (freeB l)))) := by
              show World.ownsRow _ _ _ _ _ _ _
              rw [HT.out, ← hcells_snoc, List.length_append]
              exact O7
            clear O6 O7 G7 L6 HB6 hz6 m6 HT x0 x1 x2 x3 x4 x5 x6
            go_wp2
            go_roundw
            case rel => exact ⟨s + 1, r + 1, HR2, by omega, by go_num, L7, hz7, HB7, O8⟩
            case measure => simp [intOf]; omega
          · have e : freeB l ⟨t.id, day, (q : Int), (r : Int), x, y, 0⟩ = false := Bool.eq_false_iff.2 e
            rw [e] at HC
            rw [if_neg (by rw [e]; simp)] at HT
            clear e
            go_wp2_with fail
            refine (HC.out _ L4).mono ?_
            rintro e w3 ⟨rfl, L3⟩
            have O3 : Hid (w3.ownsRow (w.heap.size + 1) 77 7 (.slice va2 ((pre t day x y N c s).filter (freeB l)).length vc2) ((pre t day x y N c (s + 1)).filter (freeB l)).length (hcells ((pre t day x y N c (s + 1)).filter (freeB l)))) := by
              rw [HT.out]
              exact own_below O1 L3 (Nat.le_refl _)
            have L5 := join_below L4 L3
            have HB5 : Hid (Tbx _ _ _ _ _ _) := HB4.on L3 hz4
            have hz5 := Nat.lt_of_lt_of_le hz4 L3.size
            clear O1 L4 L3 HB4 hz4 N4 HX HC HT HB2 L2 hz2' b0 b1 b2 b3 b4 hxz
            go_wp2
            go_roundw
            case rel => exact ⟨s + 1, r + 1, HR2, by omega, by go_num, L5, hz5, HB5, O3⟩
            case measure => simp [intOf]; omega
        · obtain ⟨va2, vc2, rfl, -⟩ := own_form HO2.out
          have HE : Hid (wr.ownsRow (w.heap.size + 1) 77 7 (.slice va2 ((pre t day x y N c s).filter (freeB l)).length vc2) ((pre t day x y N (c + 1) 0).filter (freeB l)).length (hcells ((pre t day x y N (c + 1) 0).filter (freeB l)))) := by
            have h1 : s = N := by have := HR.out; omega
            have h2 := HO2.out
            show World.ownsRow _ _ _ _ _ _ _
            rw [h1, pre_row] at h2 ⊢
            exact h2
          have HQ2 : Hid (q + 1 = c + 1 + 1) := by show _ = _; rw [HQ.out]
          clear HO HO2 HQ HR HB L hz b0 b1 b2 b3 b4
          obtain ⟨b0, b1, b2, b3, b4⟩ := HB2.out
          rw [HSE.out] at b3
          go_wp2
          go_roundw
          case rel => exact ⟨c + 1, q + 1, HQ2, by omega, by go_num, L2, hz2', HB2, HE⟩
          case measure => simp [intOf]; omega
    · have HE : Hid (wr.ownsRow w.heap.size 77 7 (.slice va ((pre t day x y N c 0).filter (freeB l)).length vc) (freeL l t day x y).length (hcells (freeL l t day x y))) := by
        have h1 : c = C := by have := HQ.out; omega
        have h2 := HO.out
        show World.ownsRow _ _ _ _ _ _ _
        unfold freeL
        try unfold allL
        rw [HCN.out, HNN.out]
        rw [h1] at h2 ⊢
        exact own_wide h2 (Nat.le_succ _)
      obtain ⟨b0, b1, b2, b3, b4⟩ := HB.out
      rw [HCO.out] at b2
      clear HO HQ
      go_wp2
      go_ret
      exact ⟨_, rfl, HE.out, L⟩

set_option maxRecDepth 100000 in
set_option maxHeartbeats 8000000 in
theorem implSeats_val (t : Hd) (ta : Option Addr) (tn tc : Nat) (day x y : Int) (C N : Nat) (w : World) (hco : t.co = (C : Int)) (hse : t.se = (N : Int)) (hC : C ≤ 20) (hN : N ≤ 90) :
    Calls Try.prog 137 #[trV t ta tn tc, .int .i64 day, .int .i64 x, .int .i64 y] w fun e w' => ∃ v, e = .returned v ∧ w'.ownsRow w.heap.size 77 7 v (allL t day x y).length (hcells (allL t day x y)) ∧ Below w.heap.size w w' := by
  obtain ⟨i0, hi, hz0, hz1, hz2⟩ := info_of info_hold
  have hcc : t.co.toNat = C := by rw [hco]; simp
  have hnn : t.se.toNat = N := by rw [hse]; simp
  have HCO : Hid (t.co = (C : Int)) := hco
  have HSE : Hid (t.se = (N : Int)) := hse
  have HCN : Hid (t.co.toNat = C) := hcc
  have HNN : Hid (t.se.toNat = N) := hnn
  clear hco hse hcc hnn
  have N0 := new_below w (trB t ta tn tc 26)
  have HB0 : Tbx (w.alloc (trB t ta tn tc 26)) w.heap.size t ta tn tc := Tbx.of (heap_new _ _)
  have hs0 : (w.alloc (trB t ta tn tc 26)).heap.size = w.heap.size + 1 := Array.size_push ..
  have HS0 : Hid ((w.alloc (trB t ta tn tc 26)).heap.size = w.heap.size + 1) := hs0
  clear hs0
  obtain ⟨m, hm⟩ : ∃ m : Nat, C * N = m := ⟨_, rfl⟩
  have hm2 : m ≤ 1800 := by rw [← hm]; exact Nat.mul_le_mul hC hN
  have hmi : (C : Int) * (N : Int) = (m : Int) := by rw [← hm]; simp
  clear hm
  go_enter Try.func137, Try.ntmps137
  obtain ⟨b0, b1, b2, b3, b4⟩ := HB0
  rw [HCO.out] at b2
  rw [HSE.out] at b3
  go_wp2_with (at_make; refine wpList_make_own _ rfl _ _ 70 rfl (w.heap.size + 1) 77 i0 (lgV ⟨0, 0, 0, 0, 0, 0, 0⟩) 7 Try.underlying70 hi hz0 hz1 .i64 .i64 _ m rfl rfl ?d1 ?d2 ?d3 ?d4 ?_)
  case d1 => rfl
  case d2 => rw [hz2]; omega
  case d3 => unfold maxLen; omega
  case d4 => exact Nat.le_of_eq HS0.out.symm
  intro WA O0 G0
  have LA : Below w.heap.size w WA := N0.grown G0 N0.size (fun k hk => by cases hk)
  have hzA : w.heap.size < WA.heap.size := Nat.lt_of_lt_of_le (Nat.lt_of_lt_of_eq (Nat.lt_succ_self _) HS0.out.symm) G0.size
  have HBA : Hid (Tbx WA w.heap.size t ta tn tc) := by
    have h0 : Tbx (w.alloc (trB t ta tn tc 26)) w.heap.size t ta tn tc := Tbx.of (heap_new _ _)
    exact h0.on (C := w.heap.size + 1) (Below.grown (Below.refl _ _) G0 (Nat.le_of_eq HS0.out.symm) (fun k hk => by cases hk)) (Nat.lt_succ_self _)
  have OA : Hid (World.ownsRow _ _ _ _ _ _ _) := O0
  clear N0 HS0 b0 b1 b2 b3 b4 O0 G0
  go_wp2
  go_loopw [9, 10] (fun v i wr => ∃ (c q : Nat), Hid (q = c + 1) ∧ q ≤ C + 1 ∧ i = .int .i64 q ∧ Below w.heap.size w wr ∧ w.heap.size < wr.heap.size ∧ Hid (Tbx wr w.heap.size t ta tn tc) ∧ Hid (wr.ownsRow (w.heap.size + 1) 77 7 v (pre t day x y N c 0).length (hcells (pre t day x y N c 0)))) (fun _ i _ => C + 1 - (intOf i).toNat)
  case atStart => exact ⟨0, 1, rfl, by omega, rfl, LA, hzA, HBA, OA⟩
  case round =>
    obtain ⟨c, q, HQ, hq, rfl, L, hz, HB, HO⟩ := hrel
    obtain ⟨va, vc, rfl, -⟩ := own_form HO.out
    by_cases hqn : q ≤ C
    · obtain ⟨b0, b1, b2, b3, b4⟩ := HB.out
      rw [HCO.out] at b2
      rw [HSE.out] at b3
      obtain ⟨W1, hW1⟩ : ∃ W1, W1 = wr := ⟨_, rfl⟩
      subst hW1
      go_wp2
      go_loopw [9, 11] (fun v i wr => ∃ (s r : Nat), Hid (r = s + 1) ∧ r ≤ N + 1 ∧ i = .int .i64 r ∧ Below w.heap.size w wr ∧ w.heap.size < wr.heap.size ∧ Hid (Tbx wr w.heap.size t ta tn tc) ∧ Hid (wr.ownsRow (w.heap.size + 1) 77 7 v (pre t day x y N c s).length (hcells (pre t day x y N c s)))) (fun _ i _ => N + 1 - (intOf i).toNat)
      case atStart => exact ⟨0, 1, rfl, by omega, rfl, L, hz, HB, HO⟩
      case round =>
        obtain ⟨s, r, HR, hr, rfl, L2, hz2', HB2, HO2⟩ := hrel
        by_cases hrn : r ≤ N
        · clear b0 b1 b2 b3 b4
          obtain ⟨b0, b1, b2, b3, b4⟩ := HB2.out
          rw [HCO.out] at b2
          rw [HSE.out] at b3
          have HP : Hid (pre t day x y N c (s + 1) = pre t day x y N c s ++ [⟨t.id, day, (q : Int), (r : Int), x, y, 0⟩]) := by
            show _ = _
            rw [pre_next, HQ.out, HR.out]
            rfl
          have HLN : Hid ((pre t day x y N c s).length ≤ 4000) := by
            show _ ≤ _
            rw [pre_len]
            have h1 := HQ.out
            have h2 := HR.out
            have h3 : c * N ≤ 20 * 90 := Nat.mul_le_mul (by omega) hN
            omega
          have N6 := new_below wr (.cells #[.int .i64 t.id, .int .i64 day, .int .i64 (q : Int), .int .i64 (r : Int), .int .i64 x, .int .i64 y, .int .i64 0] 77)
          have m6 := heap_new wr (.cells #[.int .i64 t.id, .int .i64 day, .int .i64 (q : Int), .int .i64 (r : Int), .int .i64 x, .int .i64 y, .int .i64 0] 77)
          have O6 := own_below HO2.out N6 (Nat.le_refl _)
          have L6 := join_below L2 N6
          have HB6 := HB2.out.on N6 hz2'
          have hz6 : w.heap.size < (wr.alloc (.cells #[.int .i64 t.id, .int .i64 day, .int .i64 (q : Int), .int .i64 (r : Int), .int .i64 x, .int .i64 y, .int .i64 0] 77)).heap.size := Nat.lt_of_lt_of_le hz2' N6.size
          have HR2 : Hid (r + 1 = s + 1 + 1) := by show _ = _; rw [HR.out]
          have hf := HLN.out
          obtain ⟨va2, vc2, rfl, -⟩ := own_form HO2.out
          clear HO HO2 HLN HB L hz HR L2 HB2 hz2' N6
          generalize pre t day x y N c s = d at *
          go_wp2_with (at_builtin; refine wpList_append_own_at _ rfl _ _ 70 rfl (w.heap.size + 1) 77 i0 (lgV ⟨0, 0, 0, 0, 0, 0, 0⟩) 7 56 Try.underlying70 hi hz0 hz1 hz2 rfl (by decide) _ _ _ rfl O6 ⟨wr.heap.size, 0, none⟩ 1 1 (hc1 ⟨t.id, day, (q : Int), (r : Int), x, y, 0⟩) rfl rfl ?c1 ?c2 ?c3 ?c4 ?c5 ?_)
          case c1 => exact seven_at m6
          case c2 => intro u hu; simp [hc1] at hu; rcases hu with rfl | rfl | rfl | rfl | rfl | rfl | rfl <;> rfl
          case c3 => unfold maxLen; omega
          case c4 => omega
          case c5 => exact hz6
          intro v' w7 O7 G7 _ _
          have L7 : Below w.heap.size w w7 := L6.grown G7 (by omega) (fun j hj => Nat.le_trans (Nat.le_succ _) (O6.lt j hj).1)
          have HB7 : Hid (Tbx w7 w.heap.size t ta tn tc) := HB6.on (C := w.heap.size + 1) (Below.grown (Below.refl _ _) G7 hz6 (fun j hj => (O6.lt j hj).1)) (Nat.lt_succ_self _)
          have hz7 := Nat.lt_of_lt_of_le hz6 G7.size
          have O8 : Hid (w7.ownsRow (w.heap.size + 1) 77 7 v' (pre t day x y N c (s + 1)).length (hcells (pre t day x y N c (s + 1)))) := by
            show World.ownsRow _ _ _ _ _ _ _
            rw [HP.out, ← hcells_snoc, List.length_append]
            exact O7
          clear O6 O7 G7 L6 HB6 hz6 m6 HP b0 b1 b2 b3 b4
          go_wp2
          go_roundw
          case rel => exact ⟨s + 1, r + 1, HR2, by omega, by go_num, L7, hz7, HB7, O8⟩
          case measure => simp [intOf]; omega
        · obtain ⟨va2, vc2, rfl, -⟩ := own_form HO2.out
          have HE : Hid (wr.ownsRow (w.heap.size + 1) 77 7 (.slice va2 (pre t day x y N c s).length vc2) (pre t day x y N (c + 1) 0).length (hcells (pre t day x y N (c + 1) 0))) := by
            have h1 : s = N := by have := HR.out; omega
            have h2 := HO2.out
            show World.ownsRow _ _ _ _ _ _ _
            rw [h1, pre_row] at h2 ⊢
            exact h2
          have HQ2 : Hid (q + 1 = c + 1 + 1) := by show _ = _; rw [HQ.out]
          clear HO HO2 HQ HR HB L hz b0 b1 b2 b3 b4
          obtain ⟨b0, b1, b2, b3, b4⟩ := HB2.out
          rw [HSE.out] at b3
          go_wp2
          go_roundw
          case rel => exact ⟨c + 1, q + 1, HQ2, by omega, by go_num, L2, hz2', HB2, HE⟩
          case measure => simp [intOf]; omega
    · have HE : Hid (wr.ownsRow w.heap.size 77 7 (.slice va (pre t day x y N c 0).length vc) (allL t day x y).length (hcells (allL t day x y))) := by
        have h1 : c = C := by have := HQ.out; omega
        have h2 := HO.out
        show World.ownsRow _ _ _ _ _ _ _
        unfold allL
        try unfold allL
        rw [HCN.out, HNN.out]
        rw [h1] at h2 ⊢
        exact own_wide h2 (Nat.le_succ _)
      obtain ⟨b0, b1, b2, b3, b4⟩ := HB.out
      rw [HCO.out] at b2
      clear HO HQ
      go_wp2
      go_ret
      exact ⟨_, rfl, HE.out, L⟩


end Se
end Go.Proofs.Ytiollklighmojad

/- The program's keep at its tests, and Release and Held of the program. -/
import Derived.Test.YtiollklighmojadSeAdd
namespace Go.Proofs.Ytiollklighmojad
namespace Se
open Go.ChangeShapes Go.WideShapes Go.ChangeAt Go.RowKit
open Pk (new_below join_below cell_at heap_new frozen_at lt_of kept heap_old Drawn info_of own_form own_below Room)
set_option linter.unusedSimpArgs false
set_option linter.unusedVariables false

set_option maxRecDepth 100000 in
set_option maxHeartbeats 2000000 in
theorem keep_free (b : Nat) (g : Hl → Bool) (a : Option Addr) (l : List Hl) (cap : Nat) (w : World) (hl : l.length ≤ 1048577) (I : Holds w a l) (HG : ∀ k (hk : k < l.length) wx, Below w.heap.size w wx → Calls Try.prog 106 #[.map (some b), lgV l[k]] wx fun e w' => e = .returned (.bool (g l[k])) ∧ Below wx.heap.size wx w') :
    Calls Try.prog 108 #[.slice a l.length cap, .func (.func 106) #[.map (some b)] #[]] w fun e w' => ∃ v, e = .returned v ∧ w'.ownsRow w.heap.size 77 7 v (l.filter g).length (hcells (l.filter g)) ∧ Below w.heap.size w w' := by
  obtain ⟨i0, hi, hz0, hz1, hz2⟩ := info_of info_hold
  have HGG : Hid (_) := HG
  clear HG
  go_enter Try.func108, Try.ntmps108
  go_wp2
  go_loopw [5, 10] (fun v i wr => ∃ k : Nat, k ≤ l.length ∧ i = .int .i64 k ∧ Below w.heap.size w wr ∧ Hid (wr.ownsRow w.heap.size 77 7 v ((l.take k).filter g).length (hcells ((l.take k).filter g)))) (fun _ i _ => l.length - (intOf i).toNat)
  case atStart => exact ⟨0, by omega, rfl, Below.refl _ _, World.ownsRow_nil _ _ _ _⟩
  case round =>
    obtain ⟨k, hk, rfl, L, HO⟩ := hrel
    by_cases hkn : k < l.length
    · obtain ⟨b, o, rfl, hlt, c0, c1, c2, c3, c4, c5, c6⟩ := (I.on L).at k hkn
      have HC : Hid (∀ wx, _ → _) := fun wx h => HGG.out k hkn wx h
      have hf : ((l.take k).filter g).length ≤ 1048577 := by
        have h1 := List.length_filter_le g (l.take k)
        rw [List.length_take] at h1
        omega
      have HT : Hid ((l.take (k + 1)).filter g = if g l[k] = true then (l.take k).filter g ++ [l[k]] else (l.take k).filter g) := by
        show _ = _
        rw [List.take_succ_eq_append_getElem hkn, List.filter_append]
        by_cases e : g l[k] = true
        · rw [if_pos e]
          simp [e]
        · rw [if_neg e]
          simp [e]
      generalize l[k] = p at *
      have N := new_below wr (.cells #[.int .i64 p.tr, .int .i64 p.dy, .int .i64 p.co, .int .i64 p.se, .int .i64 p.ba, .int .i64 p.be, .int .i64 p.od] 77)
      have HB : Hid (Bx (wr.alloc (.cells #[.int .i64 p.tr, .int .i64 p.dy, .int .i64 p.co, .int .i64 p.se, .int .i64 p.ba, .int .i64 p.be, .int .i64 p.od] 77)) wr.heap.size p) := Bx.of (heap_new _ _)
      have hbz : wr.heap.size < (wr.alloc (.cells #[.int .i64 p.tr, .int .i64 p.dy, .int .i64 p.co, .int .i64 p.se, .int .i64 p.ba, .int .i64 p.be, .int .i64 p.od] 77)).heap.size := by simp
      have O1 := own_below HO.out N (Nat.le_refl _)
      have L1 := join_below L N
      obtain ⟨va, vc, rfl, -⟩ := own_form O1
      clear HO
      by_cases e : g p = true
      · rw [e] at HC
        rw [if_pos e] at HT
        clear e
        go_wp2_with fail
        refine (HC.out _ L1).mono ?_
        rintro e w2 ⟨rfl, L2⟩
        have O2 := own_below O1 L2 (Nat.le_refl _)
        have L3 := join_below L1 L2
        have N4 := new_below w2 (.cells #[.int .i64 p.tr, .int .i64 p.dy, .int .i64 p.co, .int .i64 p.se, .int .i64 p.ba, .int .i64 p.be, .int .i64 p.od] 77)
        have m4 := heap_new w2 (.cells #[.int .i64 p.tr, .int .i64 p.dy, .int .i64 p.co, .int .i64 p.se, .int .i64 p.ba, .int .i64 p.be, .int .i64 p.od] 77)
        have O4 := own_below O2 N4 (Nat.le_refl _)
        have L4 := join_below L3 N4
        obtain ⟨x0, x1, x2, x3, x4, x5, x6⟩ := HB.out.on L2 hbz
        clear O1 O2 L1 L2 L3 N HB HC
        generalize (l.take k).filter g = d at *
        go_wp2_with (at_builtin; refine wpList_append_own_at _ rfl _ _ 70 rfl w.heap.size 77 i0 (lgV ⟨0, 0, 0, 0, 0, 0, 0⟩) 7 56 Try.underlying70 hi hz0 hz1 hz2 rfl (by decide) _ _ _ rfl O4 ⟨w2.heap.size, 0, none⟩ 1 1 (hc1 p) rfl rfl ?c1 ?c2 ?c3 ?c4 ?c5 ?_)
        case c1 => exact seven_at m4
        case c2 => intro u hu; simp [hc1] at hu; rcases hu with rfl | rfl | rfl | rfl | rfl | rfl | rfl <;> rfl
        case c3 => unfold maxLen; omega
        case c4 => omega
        case c5 => exact L4.size
        intro v' w5 O5 G5 _ _
        have L5 : Below w.heap.size w w5 := L4.grown G5 L4.size (fun j hj => (O4.lt j hj).1)
        have O6 : Hid (w5.ownsRow w.heap.size 77 7 v' ((l.take (k + 1)).filter g).length (hcells ((l.take (k + 1)).filter g))) := by
          show World.ownsRow _ _ _ _ _ _ _
          rw [HT.out, ← hcells_snoc, List.length_append]
          exact O5
        clear O4 O5 G5 L4 N4 m4 HT x0 x1 x2 x3 x4 x5 x6
        go_wp2
        go_roundw
        case rel => exact ⟨k + 1, by omega, by go_num, L5, O6⟩
        case measure => simp [intOf]; omega
      · have e : g p = false := Bool.eq_false_iff.2 e
        rw [e] at HC
        rw [if_neg (by rw [e]; simp)] at HT
        clear e
        go_wp2_with fail
        refine (HC.out _ L1).mono ?_
        rintro e w2 ⟨rfl, L2⟩
        have O2 : Hid (w2.ownsRow w.heap.size 77 7 (.slice va ((l.take k).filter g).length vc) ((l.take (k + 1)).filter g).length (hcells ((l.take (k + 1)).filter g))) := by
          rw [HT.out]
          exact own_below O1 L2 (Nat.le_refl _)
        have L3 := join_below L1 L2
        clear O1 L1 L2 N HB HC HT
        go_wp2
        go_roundw
        case rel => exact ⟨k + 1, by omega, by go_num, L3, O2⟩
        case measure => simp [intOf]; omega
    · obtain rfl : k = l.length := by omega
      have HO2 := HO.out
      rw [List.take_length] at HO2
      have HO3 : Hid (_) := HO2
      obtain ⟨va, vc, rfl, -⟩ := own_form HO2
      clear HO HO2
      go_wp2
      go_ret
      exact ⟨_, rfl, HO3.out, L⟩

set_option maxRecDepth 100000 in
set_option maxHeartbeats 2000000 in
theorem keep_rel (B : Nat) (g : Hl → Bool) (a : Option Addr) (l : List Hl) (cap : Nat) (w : World) (hl : l.length ≤ 1048577) (I : Holds w a l) (HG : ∀ k (hk : k < l.length) wx, Below w.heap.size w wx → Calls Try.prog 109 #[lgV l[k], .pointer (some ⟨B, 0, none⟩)] wx fun e w' => e = .returned (.bool (g l[k])) ∧ Below wx.heap.size wx w') :
    Calls Try.prog 108 #[.slice a l.length cap, .func (.func 109) #[] #[.pointer (some ⟨B, 0, none⟩)]] w fun e w' => ∃ v, e = .returned v ∧ w'.ownsRow w.heap.size 77 7 v (l.filter g).length (hcells (l.filter g)) ∧ Below w.heap.size w w' := by
  obtain ⟨i0, hi, hz0, hz1, hz2⟩ := info_of info_hold
  have HGG : Hid (_) := HG
  clear HG
  go_enter Try.func108, Try.ntmps108
  go_wp2
  go_loopw [5, 10] (fun v i wr => ∃ k : Nat, k ≤ l.length ∧ i = .int .i64 k ∧ Below w.heap.size w wr ∧ Hid (wr.ownsRow w.heap.size 77 7 v ((l.take k).filter g).length (hcells ((l.take k).filter g)))) (fun _ i _ => l.length - (intOf i).toNat)
  case atStart => exact ⟨0, by omega, rfl, Below.refl _ _, World.ownsRow_nil _ _ _ _⟩
  case round =>
    obtain ⟨k, hk, rfl, L, HO⟩ := hrel
    by_cases hkn : k < l.length
    · obtain ⟨b, o, rfl, hlt, c0, c1, c2, c3, c4, c5, c6⟩ := (I.on L).at k hkn
      have HC : Hid (∀ wx, _ → _) := fun wx h => HGG.out k hkn wx h
      have hf : ((l.take k).filter g).length ≤ 1048577 := by
        have h1 := List.length_filter_le g (l.take k)
        rw [List.length_take] at h1
        omega
      have HT : Hid ((l.take (k + 1)).filter g = if g l[k] = true then (l.take k).filter g ++ [l[k]] else (l.take k).filter g) := by
        show _ = _
        rw [List.take_succ_eq_append_getElem hkn, List.filter_append]
        by_cases e : g l[k] = true
        · rw [if_pos e]
          simp [e]
        · rw [if_neg e]
          simp [e]
      generalize l[k] = p at *
      have N := new_below wr (.cells #[.int .i64 p.tr, .int .i64 p.dy, .int .i64 p.co, .int .i64 p.se, .int .i64 p.ba, .int .i64 p.be, .int .i64 p.od] 77)
      have HB : Hid (Bx (wr.alloc (.cells #[.int .i64 p.tr, .int .i64 p.dy, .int .i64 p.co, .int .i64 p.se, .int .i64 p.ba, .int .i64 p.be, .int .i64 p.od] 77)) wr.heap.size p) := Bx.of (heap_new _ _)
      have hbz : wr.heap.size < (wr.alloc (.cells #[.int .i64 p.tr, .int .i64 p.dy, .int .i64 p.co, .int .i64 p.se, .int .i64 p.ba, .int .i64 p.be, .int .i64 p.od] 77)).heap.size := by simp
      have O1 := own_below HO.out N (Nat.le_refl _)
      have L1 := join_below L N
      obtain ⟨va, vc, rfl, -⟩ := own_form O1
      clear HO
      by_cases e : g p = true
      · rw [e] at HC
        rw [if_pos e] at HT
        clear e
        go_wp2_with fail
        refine (HC.out _ L1).mono ?_
        rintro e w2 ⟨rfl, L2⟩
        have O2 := own_below O1 L2 (Nat.le_refl _)
        have L3 := join_below L1 L2
        have N4 := new_below w2 (.cells #[.int .i64 p.tr, .int .i64 p.dy, .int .i64 p.co, .int .i64 p.se, .int .i64 p.ba, .int .i64 p.be, .int .i64 p.od] 77)
        have m4 := heap_new w2 (.cells #[.int .i64 p.tr, .int .i64 p.dy, .int .i64 p.co, .int .i64 p.se, .int .i64 p.ba, .int .i64 p.be, .int .i64 p.od] 77)
        have O4 := own_below O2 N4 (Nat.le_refl _)
        have L4 := join_below L3 N4
        obtain ⟨x0, x1, x2, x3, x4, x5, x6⟩ := HB.out.on L2 hbz
        clear O1 O2 L1 L2 L3 N HB HC
        generalize (l.take k).filter g = d at *
        go_wp2_with (at_builtin; refine wpList_append_own_at _ rfl _ _ 70 rfl w.heap.size 77 i0 (lgV ⟨0, 0, 0, 0, 0, 0, 0⟩) 7 56 Try.underlying70 hi hz0 hz1 hz2 rfl (by decide) _ _ _ rfl O4 ⟨w2.heap.size, 0, none⟩ 1 1 (hc1 p) rfl rfl ?c1 ?c2 ?c3 ?c4 ?c5 ?_)
        case c1 => exact seven_at m4
        case c2 => intro u hu; simp [hc1] at hu; rcases hu with rfl | rfl | rfl | rfl | rfl | rfl | rfl <;> rfl
        case c3 => unfold maxLen; omega
        case c4 => omega
        case c5 => exact L4.size
        intro v' w5 O5 G5 _ _
        have L5 : Below w.heap.size w w5 := L4.grown G5 L4.size (fun j hj => (O4.lt j hj).1)
        have O6 : Hid (w5.ownsRow w.heap.size 77 7 v' ((l.take (k + 1)).filter g).length (hcells ((l.take (k + 1)).filter g))) := by
          show World.ownsRow _ _ _ _ _ _ _
          rw [HT.out, ← hcells_snoc, List.length_append]
          exact O5
        clear O4 O5 G5 L4 N4 m4 HT x0 x1 x2 x3 x4 x5 x6
        go_wp2
        go_roundw
        case rel => exact ⟨k + 1, by omega, by go_num, L5, O6⟩
        case measure => simp [intOf]; omega
      · have e : g p = false := Bool.eq_false_iff.2 e
        rw [e] at HC
        rw [if_neg (by rw [e]; simp)] at HT
        clear e
        go_wp2_with fail
        refine (HC.out _ L1).mono ?_
        rintro e w2 ⟨rfl, L2⟩
        have O2 : Hid (w2.ownsRow w.heap.size 77 7 (.slice va ((l.take k).filter g).length vc) ((l.take (k + 1)).filter g).length (hcells ((l.take (k + 1)).filter g))) := by
          rw [HT.out]
          exact own_below O1 L2 (Nat.le_refl _)
        have L3 := join_below L1 L2
        clear O1 L1 L2 N HB HC HT
        go_wp2
        go_roundw
        case rel => exact ⟨k + 1, by omega, by go_num, L3, O2⟩
        case measure => simp [intOf]; omega
    · obtain rfl : k = l.length := by omega
      have HO2 := HO.out
      rw [List.take_length] at HO2
      have HO3 : Hid (_) := HO2
      obtain ⟨va, vc, rfl, -⟩ := own_form HO2
      clear HO HO2
      go_wp2
      go_ret
      exact ⟨_, rfl, HO3.out, L⟩

theorem relPred_val (p : Hl) (x : Int) (B : Nat) (w : World) (hB : B < w.heap.size) (hc : w.cell? ⟨B, 0, none⟩ = some (.int .i64 x)) :
    Calls Try.prog 109 #[lgV p, .pointer (some ⟨B, 0, none⟩)] w fun e w' => e = .returned (.bool (decide (p.od ≠ x))) ∧ Below w.heap.size w w' := by
  have N := new_below w (.cells #[.int .i64 p.tr, .int .i64 p.dy, .int .i64 p.co, .int .i64 p.se, .int .i64 p.ba, .int .i64 p.be, .int .i64 p.od] 77)
  have c0 : (w.alloc (.cells #[.int .i64 p.tr, .int .i64 p.dy, .int .i64 p.co, .int .i64 p.se, .int .i64 p.ba, .int .i64 p.be, .int .i64 p.od] 77)).cell? ⟨B, 0, none⟩ = some (.int .i64 x) := (N.cell (p := ⟨B, 0, none⟩) hB).trans hc
  clear hc
  have HV : Hid ((p.od != x) = decide (p.od ≠ x)) := by
    show _ = _
    by_cases e : p.od = x
    · simp [e]
    · simp [e]
  go_enter Try.func109, Try.ntmps109
  go_wp2
  go_ret
  exact ⟨by rw [← HV.out] <;> rfl, N⟩

theorem implRelease_val (a : Option Addr) (l : List Hl) (cap : Nat) (x : Int) (w : World) (hl : l.length ≤ 1048577) (I : Holds w a l) :
    Calls Try.prog 55 #[.slice a l.length cap, .int .i64 x] w fun e w' => ∃ v, e = .returned v ∧ w'.ownsRow (w.heap.size + 1) 77 7 v (l.filter fun p => decide (p.od ≠ x)).length (hcells (l.filter fun p => decide (p.od ≠ x))) ∧ Below w.heap.size w w' := by
  have N := new_below w (.cells #[.int .i64 x] 3)
  have m0 := heap_new w (.cells #[.int .i64 x] 3)
  have hs : (w.alloc (.cells #[.int .i64 x] 3)).heap.size = w.heap.size + 1 := Array.size_push ..
  have HC : Hid (∀ _ : Unit, _) := fun _ => keep_rel w.heap.size (fun p => decide (p.od ≠ x)) a l cap _ hl (I.on N) (fun k hk wx L => relPred_val l[k] x w.heap.size wx (Nat.lt_of_lt_of_le (lt_of m0) L.size) ((L.cell (p := ⟨w.heap.size, 0, none⟩) (lt_of m0)).trans (cell_at m0 0)))
  rw [hs] at HC
  clear m0
  go_enter Try.func55, Try.ntmps55
  go_wp2_with fail
  refine (HC.out ()).mono ?_
  rintro e w1 ⟨v, rfl, O, L1⟩
  go_wp2
  go_ret
  exact ⟨_, rfl, O, N.trans (L1.mono (Nat.le_succ _))⟩

set_option maxRecDepth 100000 in
set_option maxHeartbeats 2000000 in
theorem keep_held (B : Nat) (g : Hl → Bool) (a : Option Addr) (l : List Hl) (cap : Nat) (w : World) (hl : l.length ≤ 1048577) (I : Holds w a l) (HG : ∀ k (hk : k < l.length) wx, Below w.heap.size w wx → Calls Try.prog 110 #[lgV l[k], .pointer (some ⟨B, 0, none⟩)] wx fun e w' => e = .returned (.bool (g l[k])) ∧ Below wx.heap.size wx w') :
    Calls Try.prog 108 #[.slice a l.length cap, .func (.func 110) #[] #[.pointer (some ⟨B, 0, none⟩)]] w fun e w' => ∃ v, e = .returned v ∧ w'.ownsRow w.heap.size 77 7 v (l.filter g).length (hcells (l.filter g)) ∧ Below w.heap.size w w' := by
  obtain ⟨i0, hi, hz0, hz1, hz2⟩ := info_of info_hold
  have HGG : Hid (_) := HG
  clear HG
  go_enter Try.func108, Try.ntmps108
  go_wp2
  go_loopw [5, 10] (fun v i wr => ∃ k : Nat, k ≤ l.length ∧ i = .int .i64 k ∧ Below w.heap.size w wr ∧ Hid (wr.ownsRow w.heap.size 77 7 v ((l.take k).filter g).length (hcells ((l.take k).filter g)))) (fun _ i _ => l.length - (intOf i).toNat)
  case atStart => exact ⟨0, by omega, rfl, Below.refl _ _, World.ownsRow_nil _ _ _ _⟩
  case round =>
    obtain ⟨k, hk, rfl, L, HO⟩ := hrel
    by_cases hkn : k < l.length
    · obtain ⟨b, o, rfl, hlt, c0, c1, c2, c3, c4, c5, c6⟩ := (I.on L).at k hkn
      have HC : Hid (∀ wx, _ → _) := fun wx h => HGG.out k hkn wx h
      have hf : ((l.take k).filter g).length ≤ 1048577 := by
        have h1 := List.length_filter_le g (l.take k)
        rw [List.length_take] at h1
        omega
      have HT : Hid ((l.take (k + 1)).filter g = if g l[k] = true then (l.take k).filter g ++ [l[k]] else (l.take k).filter g) := by
        show _ = _
        rw [List.take_succ_eq_append_getElem hkn, List.filter_append]
        by_cases e : g l[k] = true
        · rw [if_pos e]
          simp [e]
        · rw [if_neg e]
          simp [e]
      generalize l[k] = p at *
      have N := new_below wr (.cells #[.int .i64 p.tr, .int .i64 p.dy, .int .i64 p.co, .int .i64 p.se, .int .i64 p.ba, .int .i64 p.be, .int .i64 p.od] 77)
      have HB : Hid (Bx (wr.alloc (.cells #[.int .i64 p.tr, .int .i64 p.dy, .int .i64 p.co, .int .i64 p.se, .int .i64 p.ba, .int .i64 p.be, .int .i64 p.od] 77)) wr.heap.size p) := Bx.of (heap_new _ _)
      have hbz : wr.heap.size < (wr.alloc (.cells #[.int .i64 p.tr, .int .i64 p.dy, .int .i64 p.co, .int .i64 p.se, .int .i64 p.ba, .int .i64 p.be, .int .i64 p.od] 77)).heap.size := by simp
      have O1 := own_below HO.out N (Nat.le_refl _)
      have L1 := join_below L N
      obtain ⟨va, vc, rfl, -⟩ := own_form O1
      clear HO
      by_cases e : g p = true
      · rw [e] at HC
        rw [if_pos e] at HT
        clear e
        go_wp2_with fail
        refine (HC.out _ L1).mono ?_
        rintro e w2 ⟨rfl, L2⟩
        have O2 := own_below O1 L2 (Nat.le_refl _)
        have L3 := join_below L1 L2
        have N4 := new_below w2 (.cells #[.int .i64 p.tr, .int .i64 p.dy, .int .i64 p.co, .int .i64 p.se, .int .i64 p.ba, .int .i64 p.be, .int .i64 p.od] 77)
        have m4 := heap_new w2 (.cells #[.int .i64 p.tr, .int .i64 p.dy, .int .i64 p.co, .int .i64 p.se, .int .i64 p.ba, .int .i64 p.be, .int .i64 p.od] 77)
        have O4 := own_below O2 N4 (Nat.le_refl _)
        have L4 := join_below L3 N4
        obtain ⟨x0, x1, x2, x3, x4, x5, x6⟩ := HB.out.on L2 hbz
        clear O1 O2 L1 L2 L3 N HB HC
        generalize (l.take k).filter g = d at *
        go_wp2_with (at_builtin; refine wpList_append_own_at _ rfl _ _ 70 rfl w.heap.size 77 i0 (lgV ⟨0, 0, 0, 0, 0, 0, 0⟩) 7 56 Try.underlying70 hi hz0 hz1 hz2 rfl (by decide) _ _ _ rfl O4 ⟨w2.heap.size, 0, none⟩ 1 1 (hc1 p) rfl rfl ?c1 ?c2 ?c3 ?c4 ?c5 ?_)
        case c1 => exact seven_at m4
        case c2 => intro u hu; simp [hc1] at hu; rcases hu with rfl | rfl | rfl | rfl | rfl | rfl | rfl <;> rfl
        case c3 => unfold maxLen; omega
        case c4 => omega
        case c5 => exact L4.size
        intro v' w5 O5 G5 _ _
        have L5 : Below w.heap.size w w5 := L4.grown G5 L4.size (fun j hj => (O4.lt j hj).1)
        have O6 : Hid (w5.ownsRow w.heap.size 77 7 v' ((l.take (k + 1)).filter g).length (hcells ((l.take (k + 1)).filter g))) := by
          show World.ownsRow _ _ _ _ _ _ _
          rw [HT.out, ← hcells_snoc, List.length_append]
          exact O5
        clear O4 O5 G5 L4 N4 m4 HT x0 x1 x2 x3 x4 x5 x6
        go_wp2
        go_roundw
        case rel => exact ⟨k + 1, by omega, by go_num, L5, O6⟩
        case measure => simp [intOf]; omega
      · have e : g p = false := Bool.eq_false_iff.2 e
        rw [e] at HC
        rw [if_neg (by rw [e]; simp)] at HT
        clear e
        go_wp2_with fail
        refine (HC.out _ L1).mono ?_
        rintro e w2 ⟨rfl, L2⟩
        have O2 : Hid (w2.ownsRow w.heap.size 77 7 (.slice va ((l.take k).filter g).length vc) ((l.take (k + 1)).filter g).length (hcells ((l.take (k + 1)).filter g))) := by
          rw [HT.out]
          exact own_below O1 L2 (Nat.le_refl _)
        have L3 := join_below L1 L2
        clear O1 L1 L2 N HB HC HT
        go_wp2
        go_roundw
        case rel => exact ⟨k + 1, by omega, by go_num, L3, O2⟩
        case measure => simp [intOf]; omega
    · obtain rfl : k = l.length := by omega
      have HO2 := HO.out
      rw [List.take_length] at HO2
      have HO3 : Hid (_) := HO2
      obtain ⟨va, vc, rfl, -⟩ := own_form HO2
      clear HO HO2
      go_wp2
      go_ret
      exact ⟨_, rfl, HO3.out, L⟩

theorem heldPred_val (p : Hl) (x : Int) (B : Nat) (w : World) (hB : B < w.heap.size) (hc : w.cell? ⟨B, 0, none⟩ = some (.int .i64 x)) :
    Calls Try.prog 110 #[lgV p, .pointer (some ⟨B, 0, none⟩)] w fun e w' => e = .returned (.bool (decide (p.od = x))) ∧ Below w.heap.size w w' := by
  have N := new_below w (.cells #[.int .i64 p.tr, .int .i64 p.dy, .int .i64 p.co, .int .i64 p.se, .int .i64 p.ba, .int .i64 p.be, .int .i64 p.od] 77)
  have c0 : (w.alloc (.cells #[.int .i64 p.tr, .int .i64 p.dy, .int .i64 p.co, .int .i64 p.se, .int .i64 p.ba, .int .i64 p.be, .int .i64 p.od] 77)).cell? ⟨B, 0, none⟩ = some (.int .i64 x) := (N.cell (p := ⟨B, 0, none⟩) hB).trans hc
  clear hc
  have HV : Hid ((p.od == x) = decide (p.od = x)) := by
    show _ = _
    by_cases e : p.od = x
    · simp [e]
    · simp [e]
  go_enter Try.func110, Try.ntmps110
  go_wp2
  go_ret
  exact ⟨by rw [← HV.out] <;> rfl, N⟩

theorem implHeld_val (a : Option Addr) (l : List Hl) (cap : Nat) (x : Int) (w : World) (hl : l.length ≤ 1048577) (I : Holds w a l) :
    Calls Try.prog 56 #[.slice a l.length cap, .int .i64 x] w fun e w' => ∃ v, e = .returned v ∧ w'.ownsRow (w.heap.size + 1) 77 7 v (l.filter fun p => decide (p.od = x)).length (hcells (l.filter fun p => decide (p.od = x))) ∧ Below w.heap.size w w' := by
  have N := new_below w (.cells #[.int .i64 x] 3)
  have m0 := heap_new w (.cells #[.int .i64 x] 3)
  have hs : (w.alloc (.cells #[.int .i64 x] 3)).heap.size = w.heap.size + 1 := Array.size_push ..
  have HC : Hid (∀ _ : Unit, _) := fun _ => keep_held w.heap.size (fun p => decide (p.od = x)) a l cap _ hl (I.on N) (fun k hk wx L => heldPred_val l[k] x w.heap.size wx (Nat.lt_of_lt_of_le (lt_of m0) L.size) ((L.cell (p := ⟨w.heap.size, 0, none⟩) (lt_of m0)).trans (cell_at m0 0)))
  rw [hs] at HC
  clear m0
  go_enter Try.func56, Try.ntmps56
  go_wp2_with fail
  refine (HC.out ()).mono ?_
  rintro e w1 ⟨v, rfl, O, L1⟩
  go_wp2
  go_ret
  exact ⟨_, rfl, O, N.trans (L1.mono (Nat.le_succ _))⟩


end Se
end Go.Proofs.Ytiollklighmojad

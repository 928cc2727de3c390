/- The contract of the program's longest. -/
import Derived.Test.YtcifgableeeooabDoorPkLong
import Derived.Test.YtcifgableeeooabDoorPkBits
namespace Go.Proofs.YtcifgableeeooabDoor
namespace Pk
open Go.ChangeShapes Go.WideShapes Go.ChangeAt Go.RowKit
open Go.ChangeMaps (setBlock)
set_option linter.unusedSimpArgs false
set_option linter.unusedVariables false

theorem two_new' (w : World) (a b : Obj) : Below w.heap.size w ((w.alloc a).alloc b) ∧ ((w.alloc a).alloc b).heap[w.heap.size]? = some a ∧ ((w.alloc a).alloc b).heap[w.heap.size + 1]? = some b := by
  refine ⟨((Below.refl _ _).alloc (Nat.le_refl _) _).alloc (by simp) _, heap_old (heap_new w a) b, ?_⟩
  have := heap_new (w.alloc a) b
  simpa using this

/-- A piece's block. -/
abbrev pcB (x n d : Int) : Obj := .cells #[.int .i64 x, .int .i64 n, .int .i64 d] 84

set_option maxHeartbeats 2000000 in
theorem longest_val (B b : Nat) (s : ByteArray) (i : Nat) (es : Array MapEntry) (clock : Nat) (w : World) (hs : s.size ≤ 3000) (hi : i ≤ s.size) (M : Mp B b (learnt s i) es clock w) :
    Calls Tryd.prog 110 #[.map (some b), .string s, .int .i64 i] w fun e w' => e = .returned (pcV 0 ((longV s i).1 : Int) ((longV s i).2 : Int)) ∧ Below w.heap.size w w' := by
  obtain ⟨L0, m0, m1⟩ := two_new' w (pcB 0 0 0) (pcB 0 0 0)
  by_cases h3 : i + 3 ≤ s.size
  · have t3 : decide ((s.size : Int) < (i : Int) + 3) = false := decide_eq_false (by omega)
    have e1 : (i : Int) + 1 = ((i + 1 : Nat) : Int) := by omega
    have e2 : (i : Int) + 2 = ((i + 2 : Nat) : Int) := by omega
    have HK : Hid (_) := keyAt_is s i (i + 1) (i + 2) (by omega) (by omega) (by omega) rfl rfl
    go_enter Tryd.func110, Tryd.ntmps110
    go_wp2_with fail
    refine (triple_is s i (i + 1) (i + 2) _ hs (by omega) (by omega) (by omega) e1 e2).mono ?_
    rintro e w2 ⟨rfl, L2⟩
    have n0 := kept L2 (lt_of m0) m0
    have n1 := kept L2 (lt_of m1) m1
    have L3 := join_below L0 L2
    have M3 := M.on L3
    obtain ⟨v, hrun, hown⟩ := M3.lookup (keyAt s i)
    rw [HK.out] at hrun
    obtain ⟨va, vc, rfl, -⟩ := own_form hown
    have hlen := learnt_length s i (keyAt s i)
    clear HK e1 e2 m0 m1 L0 L2 M3
    go_wp2
    generalize hP : learnt s i (keyAt s i) = P at *
    have HP : Hid (learnt s i (keyAt s i) = P) := hP
    clear hP
    go_loopw [9] (fun t wr => ∃ (j b1 b2 : Nat), j ≤ P.length ∧ t = .int .i64 ((j : Int) - 1) ∧ b1 ≤ 258 ∧ b2 ≤ 3000 ∧ wr.heap[w.heap.size]? = some (pcB 0 0 0) ∧ wr.heap[w.heap.size + 1]? = some (pcB 0 b1 b2) ∧ wr.ownsRow B 3 1 (.slice va P.length vc) P.length (icells P) ∧ Below w.heap.size w wr ∧ Hid (bestW s i (dAt P i j) = (b1, b2) ∧ dAt P i j ≤ 1024)) (fun t _ => (intOf t + 1).toNat)
    case atStart => exact ⟨P.length, 0, 0, Nat.le_refl _, rfl, by omega, by omega, n0, n1, hown, L3, by
      show _ ∧ _
      rw [dAt_none P i P.length (by simp)]
      exact ⟨rfl, by omega⟩⟩
    case round =>
      obtain ⟨j, b1, b2, hj, rfl, hb1, hb2, q0, q1, hownr, LR, H⟩ := hrel
      have c1 : wr.cell? ⟨w.heap.size + 1, 1, none⟩ = some (.int .i64 b1) := cell_at q1 1
      by_cases hj0 : j = 0
      · subst hj0
        have HV : Hid (longV s i = (b1, b2)) := by
          show _ = _
          have := long_end s i 0 h3 (by omega) (by rw [HP.out]; exact H.out.2) (fun m p h => by omega)
          rw [this, HP.out, H.out.1]
        have em : ((0 : Nat) : Int) - 1 = -1 := rfl
        rw [em]
        have z0 : wr.cell? ⟨w.heap.size, 0, none⟩ = some (.int .i64 0) := cell_at q0 0
        have z1 : wr.cell? ⟨w.heap.size, 1, none⟩ = some (.int .i64 0) := cell_at q0 1
        have z2 : wr.cell? ⟨w.heap.size, 2, none⟩ = some (.int .i64 0) := cell_at q0 2
        have f0 : wr.frozen? ⟨w.heap.size, 0, none⟩ = false := frozen_at q0 0
        have f1 : wr.frozen? ⟨w.heap.size, 1, none⟩ = false := frozen_at q0 1
        have f2 : wr.frozen? ⟨w.heap.size, 2, none⟩ = false := frozen_at q0 2
        have c0 : wr.cell? ⟨w.heap.size + 1, 0, none⟩ = some (.int .i64 0) := cell_at q1 0
        have c2 : wr.cell? ⟨w.heap.size + 1, 2, none⟩ = some (.int .i64 b2) := cell_at q1 2
        go_wp2
        refine bodyPost_ret (v := pcV 0 b1 b2) (by simp [results, Tryd.results110, go_sem, z0, z1, z2]) rfl ?_
        refine ⟨by rw [HV.out], ((LR.setCell (Nat.le_refl _) _).setCell (Nat.le_refl _) _).setCell (Nat.le_refl _) _⟩
      · obtain ⟨m, rfl⟩ : ∃ m, j = m + 1 := ⟨j - 1, by omega⟩
        have ej : ((m + 1 : Nat) : Int) - 1 = (m : Int) := by omega
        rw [ej]
        obtain ⟨g, cp, he, hg1, hg2, y, hy, hc⟩ := own_at hownr m (by omega)
        simp only [Value.slice.injEq] at he
        obtain ⟨rfl, -, -⟩ := he
        rw [icells_at P m (by omega)] at hy
        simp only [Option.some.injEq] at hy
        subst hy
        have hpm := (learnt_mem s i (keyAt s i) P[m]).1 (by rw [HP.out]; exact List.getElem_mem _)
        have hpe : P[m]? = some P[m] := List.getElem?_eq_getElem (by omega)
        have hst := long_step s i m P[m] h3 (by rw [HP.out]; exact hpe)
        rw [HP.out, H.out.1] at hst
        have hrl := Math.run_le s P[m] i
        have HD : Hid (dAt P i m = i - P[m]) := dAt_some P i m P[m] hpe
        have HR : Hid (∀ w, _) := fun w => alike_val s P[m] i w hs hpm.1 hi
        have HE := long_end s i (m + 1) h3 (by rw [HP.out]; omega) (by rw [HP.out]; exact H.out.2)
        rw [HP.out, H.out.1] at HE
        have HE2 : Hid (1024 < i - P[m] → longV s i = (b1, b2)) := fun h => HE (fun q p h1 h2 => by
          obtain rfl : m = q := by omega
          rw [hpe] at h2
          have := Option.some.inj h2
          omega)
        have hpi := hpm.1
        generalize P[m] = pp at *
        generalize Math.run s pp i = r at *
        have ed : (i : Int) - (pp : Int) = ((i - pp : Nat) : Int) := by omega
        have hdb : i - pp ≤ 3000 := by omega
        clear HE hpe hpm
        have HST : Hid (_) := hst
        clear hst
        generalize hdd : i - pp = dd at *
        have HDD : Hid (i - pp = dd) := hdd
        clear hdd
        by_cases hfar : dd ≤ 1024
        · have tf : decide ((dd : Int) ≤ 1024) = true := decide_eq_true (by omega)
          have HFR : Hid (dd ≤ 1024) := hfar
          clear hfar HE2
          by_cases hgt : b1 < r
          · rw [if_pos hgt] at HST
            go_wp2_with fail
            refine (HR.out _).mono ?_
            rintro e w3 ⟨rfl, D3⟩
            have k0 := kept (D3.below wr.heap.size) (lt_of q0) q0
            have k1 := kept (D3.below wr.heap.size) (lt_of q1) q1
            have hown3 := own_below hownr (D3.below wr.heap.size) (Nat.le_refl _)
            have L4 := LR.trans (D3.below _)
            have hcc : w3.cell? ⟨g, m, none⟩ = some (.int .i64 pp) := by rw [(D3.below wr.heap.size).cell (p := ⟨g, m, none⟩) hg2]; exact hc
            clear hc hownr LR D3 c1
            have y0 : w3.cell? ⟨w.heap.size + 1, 0, none⟩ = some (.int .i64 0) := cell_at k1 0
            have y1 : w3.cell? ⟨w.heap.size + 1, 1, none⟩ = some (.int .i64 b1) := cell_at k1 1
            have y2 : w3.cell? ⟨w.heap.size + 1, 2, none⟩ = some (.int .i64 b2) := cell_at k1 2
            have x0 : w3.frozen? ⟨w.heap.size + 1, 0, none⟩ = false := frozen_at k1 0
            have x1 : w3.frozen? ⟨w.heap.size + 1, 1, none⟩ = false := frozen_at k1 1
            have x2 : w3.frozen? ⟨w.heap.size + 1, 2, none⟩ = false := frozen_at k1 2
            have hne := own_ne' hown3 k1 (by decide)
            have K1 := heap_set (i := 2) (heap_set (i := 1) (heap_set (i := 0) k1 (.int .i64 0)) (.int .i64 r)) (.int .i64 dd)
            have K0 := heap_set_other (g := w.heap.size + 1) (i := 2) (heap_set_other (g := w.heap.size + 1) (i := 1) (heap_set_other (g := w.heap.size + 1) (i := 0) k0 (by omega) (.int .i64 0)) (by omega) (.int .i64 r)) (by omega) (.int .i64 dd)
            have O3 := ownsRow_setCell_other (ownsRow_setCell_other (ownsRow_setCell_other hown3 (a := ⟨w.heap.size + 1, 0, none⟩) hne (.int .i64 0)) (a := ⟨w.heap.size + 1, 1, none⟩) hne (.int .i64 r)) (a := ⟨w.heap.size + 1, 2, none⟩) hne (.int .i64 dd)
            have L5 := ((L4.setCell (p := ⟨w.heap.size + 1, 0, none⟩) (Nat.le_succ _) (.int .i64 0)).setCell (p := ⟨w.heap.size + 1, 1, none⟩) (Nat.le_succ _) (.int .i64 r)).setCell (p := ⟨w.heap.size + 1, 2, none⟩) (Nat.le_succ _) (.int .i64 dd)
            clear hown3 L4 k0
            go_wp2
            go_roundw
            case rel => exact ⟨m, r, dd, by omega, by go_num, hrl, hdb, K0, K1, O3, L5, by show _ ∧ _; rw [HD.out]; exact ⟨HST.out, HFR.out⟩⟩
            case measure => simp [intOf] <;> omega
          · rw [if_neg hgt] at HST
            go_wp2_with fail
            refine (HR.out _).mono ?_
            rintro e w3 ⟨rfl, D3⟩
            have k0 := kept (D3.below wr.heap.size) (lt_of q0) q0
            have k1 := kept (D3.below wr.heap.size) (lt_of q1) q1
            have hown3 := own_below hownr (D3.below wr.heap.size) (Nat.le_refl _)
            have L4 := LR.trans (D3.below _)
            have y1 : w3.cell? ⟨w.heap.size + 1, 1, none⟩ = some (.int .i64 b1) := cell_at k1 1
            clear hc hownr LR D3 c1
            go_wp2
            go_roundw
            case rel => exact ⟨m, b1, b2, by omega, by go_num, hb1, hb2, k0, k1, hown3, L4, by show _ ∧ _; rw [HD.out]; exact ⟨HST.out, HFR.out⟩⟩
            case measure => simp [intOf] <;> omega
        · have tf : decide ((dd : Int) ≤ 1024) = false := decide_eq_false (by omega)
          have HV : Hid (longV s i = (b1, b2)) := HE2.out (by omega)
          clear hfar HE2
          have z0 : wr.cell? ⟨w.heap.size, 0, none⟩ = some (.int .i64 0) := cell_at q0 0
          have z1 : wr.cell? ⟨w.heap.size, 1, none⟩ = some (.int .i64 0) := cell_at q0 1
          have z2 : wr.cell? ⟨w.heap.size, 2, none⟩ = some (.int .i64 0) := cell_at q0 2
          have f0 : wr.frozen? ⟨w.heap.size, 0, none⟩ = false := frozen_at q0 0
          have f1 : wr.frozen? ⟨w.heap.size, 1, none⟩ = false := frozen_at q0 1
          have f2 : wr.frozen? ⟨w.heap.size, 2, none⟩ = false := frozen_at q0 2
          have c0 : wr.cell? ⟨w.heap.size + 1, 0, none⟩ = some (.int .i64 0) := cell_at q1 0
          have c2 : wr.cell? ⟨w.heap.size + 1, 2, none⟩ = some (.int .i64 b2) := cell_at q1 2
          go_wp2
          refine bodyPost_ret (v := pcV 0 b1 b2) (by simp [results, Tryd.results110, go_sem, z0, z1, z2]) rfl ?_
          refine ⟨by rw [HV.out], ((LR.setCell (Nat.le_refl _) _).setCell (Nat.le_refl _) _).setCell (Nat.le_refl _) _⟩
  · have t3 : decide ((s.size : Int) < (i : Int) + 3) = true := decide_eq_true (by omega)
    have HV : Hid (_) := longV_short s i hi h3
    have d0 : ((w.alloc (pcB 0 0 0)).alloc (pcB 0 0 0)).cell? ⟨w.heap.size, 0, none⟩ = some (.int .i64 0) := cell_at m0 0
    have d1 : ((w.alloc (pcB 0 0 0)).alloc (pcB 0 0 0)).cell? ⟨w.heap.size, 1, none⟩ = some (.int .i64 0) := cell_at m0 1
    have d2 : ((w.alloc (pcB 0 0 0)).alloc (pcB 0 0 0)).cell? ⟨w.heap.size, 2, none⟩ = some (.int .i64 0) := cell_at m0 2
    clear h3
    go_enter Tryd.func110, Tryd.ntmps110
    go_wp2
    rw [HV.out]
    refine bodyPost_ret (v := pcV 0 0 0) (by simp [results, Tryd.results110, go_sem, d0, d1, d2]) rfl ?_
    exact ⟨rfl, L0⟩

end Pk
end Go.Proofs.YtcifgableeeooabDoor

/- Draws of controls and of lists of them. -/
import Derived.Test.YtbmfhdlbbaabgaaCePick
import Derived.Test.YtbmfhdlbbaabgaaCeRevS
import Derived.Test.YtbmfhdlbbaabgaaCurKb
namespace Go.Proofs.Ytbmfhdlbbaabgaa
namespace Hn
open Go.ChangeShapes Go.WideShapes Go.ChangeAt Go.RowKit Go.Joins
open Pk (new_below join_below cell_at heap_new frozen_at lt_of kept heap_old Drawn info_of Room own_form own_below)
open Cur (Is Moved Bytes Kb new_any below_any pickInt_any rowOf_new RowOf owns_moved)
set_option linter.unusedSimpArgs false
set_option linter.unusedVariables false

theorem wfS {x : Int} (h : -2000000000 ≤ x ∧ x ≤ 2000000000) : WfI x := WalkArith.wf_i64 (by omega)

theorem own_kb {w w1 : World} {base e size n c : Nat} {v : Value} {xs : List Value} (h : w.ownsRow base e size v n xs) (K : Kb c w w1) (hc : c < base) : w1.ownsRow base e size v n xs := by
  obtain ⟨h1, h2⟩ := h
  refine ⟨h1, ?_⟩
  rcases h2 with h2 | ⟨g, cap, cur, hv, hg, hh, hr⟩
  · exact Or.inl h2
  · exact Or.inr ⟨g, cap, cur, hv, hg, K.at (by omega) hh, hr⟩

set_option maxRecDepth 100000 in
set_option maxHeartbeats 4000000 in
theorem ctl_any {W0 : World} {a : Option Addr} {n cap c : Nat} {w : World} (C : Is W0 a n cap c w) :
    Calls Try.prog 52 #[.pointer (some ⟨c, 0, none⟩)] w fun e w' => (∃ p : Ct, e = .returned (lgV p) ∧ Wf p) ∧ Is W0 a n cap c w' ∧ Kb c w w' := by
  have hcw := C.lt
  have hW0 : W0.heap.size ≤ w.heap.size := C.below.size
  have hPc : w.heap.size ≠ c := by omega
  have C1 := C.alloc (.cells #[.int .i64 0, .int .i64 0, .int .i64 0, .int .i64 0, .int .i64 0, .int .i64 0] 37)
  have K1 : Kb c w (w.alloc (.cells #[.int .i64 0, .int .i64 0, .int .i64 0, .int .i64 0, .int .i64 0, .int .i64 0] 37)) := (Kb.refl c w).alloc _
  have m1 := heap_new w (.cells #[.int .i64 0, .int .i64 0, .int .i64 0, .int .i64 0, .int .i64 0, .int .i64 0] 37)
  go_enter Try.func52, Try.ntmps52
  go_wp2_with fail
  refine (below_any C1 3).mono ?_
  generalize w.alloc (.cells #[.int .i64 0, .int .i64 0, .int .i64 0, .int .i64 0, .int .i64 0, .int .i64 0] 37) = v1 at *
  rintro e w2 ⟨⟨x1, rfl, h1a, h1b⟩, C2, M2⟩
  have h1c := h1b (by omega)
  have K2 := K1.trans (Kb.moved M2)
  have m2 := (M2.block _ hPc).trans m1
  clear C1 K1 m1 M2 h1b
  obtain ⟨d1, hd1⟩ : ∃ d : Int, 1 + x1 = d := ⟨_, rfl⟩
  have q1a : wrap64 (1 + x1) = d1 := by rw [hd1]; unfold wrap64; omega
  have q1b : IntKind.i64.wrap (1 + x1) = d1 := by rw [hd1, IntKind.wrap_i64]; omega
  have g1 : 1 ≤ d1 ∧ d1 ≤ 6 := by omega
  clear hd1
  go_wp2_with fail
  refine (below_any C2 6).mono ?_
  rintro e w3 ⟨⟨x2, rfl, h2a, h2b⟩, C3, M3⟩
  have h2c := h2b (by omega)
  have K3 := K2.trans (Kb.moved M3)
  have m3 := (M3.block _ hPc).trans m2
  clear C2 K2 m2 M3 h2b
  obtain ⟨d2, hd2⟩ : ∃ d : Int, 1 + x2 = d := ⟨_, rfl⟩
  have q2a : wrap64 (1 + x2) = d2 := by rw [hd2]; unfold wrap64; omega
  have q2b : IntKind.i64.wrap (1 + x2) = d2 := by rw [hd2, IntKind.wrap_i64]; omega
  have g2 : 1 ≤ d2 ∧ d2 ≤ 6 := by omega
  clear hd2
  go_wp2_with fail
  refine (below_any C3 4).mono ?_
  rintro e w4 ⟨⟨x3, rfl, h3a, h3b⟩, C4, M4⟩
  have h3c := h3b (by omega)
  have K4 := K3.trans (Kb.moved M4)
  have m4 := (M4.block _ hPc).trans m3
  clear C3 K3 m3 M4 h3b
  go_wp2_with fail
  refine (below_any C4 2).mono ?_
  rintro e w5 ⟨⟨x4, rfl, h4a, h4b⟩, C5, M5⟩
  have h4c := h4b (by omega)
  have K5 := K4.trans (Kb.moved M5)
  have m5 := (M5.block _ hPc).trans m4
  clear C4 K4 m4 M5 h4b
  obtain ⟨d4, hd4⟩ : ∃ d : Int, 1 + x4 = d := ⟨_, rfl⟩
  have q4a : wrap64 (1 + x4) = d4 := by rw [hd4]; unfold wrap64; omega
  have q4b : IntKind.i64.wrap (1 + x4) = d4 := by rw [hd4, IntKind.wrap_i64]; omega
  have g4 : 1 ≤ d4 ∧ d4 ≤ 6 := by omega
  clear hd4
  have C6 := C5.alloc (.cells #[.int .i64 0, .int .i64 0, .int .i64 0, .int .i64 5, .int .i64 1] 3)
  have K6 := K5.alloc (.cells #[.int .i64 0, .int .i64 0, .int .i64 0, .int .i64 5, .int .i64 1] 3)
  have m6 := heap_old m5 (.cells #[.int .i64 0, .int .i64 0, .int .i64 0, .int .i64 5, .int .i64 1] 3)
  have hXc : w5.heap.size ≠ c := by have := C5.lt; omega
  have R6 : RowOf (fun z => 0 ≤ z ∧ z ≤ 5) (w5.alloc (.cells #[.int .i64 0, .int .i64 0, .int .i64 0, .int .i64 5, .int .i64 1] 3)) w5.heap.size 5 := rowOf_new (fun z => 0 ≤ z ∧ z ≤ 5) w5 [0, 0, 0, 5, 1] 3 (by intro z hz; simp at hz; omega)
  go_wp2_with fail
  refine (pickInt_any C6 (fun z => 0 ≤ z ∧ z ≤ 5) w5.heap.size 5 5 hXc (by omega) (by omega) R6).mono ?_
  rintro e w7 ⟨⟨x5, rfl, h5⟩, C7, M7⟩
  have K7 := K6.trans (Kb.moved M7)
  have m7 := (M7.block _ hPc).trans m6
  clear C5 C6 K5 K6 m5 m6 M7 R6 hXc
  have z0 : w7.cell? ⟨w.heap.size, 0, none⟩ = some (.int .i64 0) := cell_at m7 0
  have f0 : w7.frozen? ⟨w.heap.size, 0, none⟩ = false := frozen_at m7 0
  have z1 : w7.cell? ⟨w.heap.size, 1, none⟩ = some (.int .i64 0) := cell_at m7 1
  have f1 : w7.frozen? ⟨w.heap.size, 1, none⟩ = false := frozen_at m7 1
  have z2 : w7.cell? ⟨w.heap.size, 2, none⟩ = some (.int .i64 0) := cell_at m7 2
  have f2 : w7.frozen? ⟨w.heap.size, 2, none⟩ = false := frozen_at m7 2
  have z3 : w7.cell? ⟨w.heap.size, 3, none⟩ = some (.int .i64 0) := cell_at m7 3
  have f3 : w7.frozen? ⟨w.heap.size, 3, none⟩ = false := frozen_at m7 3
  have z4 : w7.cell? ⟨w.heap.size, 4, none⟩ = some (.int .i64 0) := cell_at m7 4
  have f4 : w7.frozen? ⟨w.heap.size, 4, none⟩ = false := frozen_at m7 4
  have z5 : w7.cell? ⟨w.heap.size, 5, none⟩ = some (.int .i64 0) := cell_at m7 5
  have f5 : w7.frozen? ⟨w.heap.size, 5, none⟩ = false := frozen_at m7 5
  clear m7
  go_wp2
  refine bodyPost_ret (v := lgV ⟨d1, d2, x3, d4, 5, x5⟩) (by simp [results, Try.results52, go_sem, z0, z1, z2, z3, z4, z5]) rfl ?_
  exact ⟨⟨_, rfl, ⟨wfS (by dsimp only; omega), wfS (by dsimp only; omega), wfS (by dsimp only; omega), wfS (by dsimp only; omega), wfS (by dsimp only; omega), wfS (by dsimp only; omega)⟩⟩, ((((((C7.set w.heap.size 0 _ hPc hW0).set w.heap.size 1 _ hPc hW0).set w.heap.size 2 _ hPc hW0).set w.heap.size 3 _ hPc hW0).set w.heap.size 4 _ hPc hW0).set w.heap.size 5 _ hPc hW0), ((((((K7.set w.heap.size 0 _ (Nat.le_refl _)).set w.heap.size 1 _ (Nat.le_refl _)).set w.heap.size 2 _ (Nat.le_refl _)).set w.heap.size 3 _ (Nat.le_refl _)).set w.heap.size 4 _ (Nat.le_refl _)).set w.heap.size 5 _ (Nat.le_refl _))⟩

theorem wfs_snoc {l : List Ct} {p : Ct} (h : Wfs l) (hp : Wf p) : Wfs (l ++ [p]) := by
  intro q hq
  rcases List.mem_append.1 hq with hq | hq
  · exact h q hq
  · simp at hq; rw [hq]; exact hp

set_option maxRecDepth 100000 in
set_option maxHeartbeats 4000000 in
theorem list_any {W0 : World} {a : Option Addr} {n cap c : Nat} {w : World} (C : Is W0 a n cap c w) :
    Calls Try.prog 31 #[.pointer (some ⟨c, 0, none⟩)] w fun e w' => (∃ (l : List Ct) (g vc : Nat), e = .returned (.slice (some ⟨g, 0, none⟩) l.length vc) ∧ w'.ownsRow w.heap.size 37 6 (.slice (some ⟨g, 0, none⟩) l.length vc) l.length (ccells l) ∧ Wfs l ∧ l.length ≤ 9) ∧ Is W0 a n cap c w' ∧ Kb c w w' := by
  have hcw := C.lt
  have hW0 : W0.heap.size ≤ w.heap.size := C.below.size
  obtain ⟨i0, hi, hy0, hy1, hy2⟩ := info_of info_control
  have C1 := C.alloc (.cells #[] 37)
  have K1 : Kb c w (w.alloc (.cells #[] 37)) := (Kb.refl c w).alloc _
  have O1 := nil_row w 37 6
  go_enter Try.func31, Try.ntmps31
  go_wp2_with fail
  refine (below_any C1 10).mono ?_
  rintro e w2 ⟨⟨x0, rfl, hx0, hx1⟩, C2, M2⟩
  have hx2 := hx1 (by omega)
  obtain ⟨m, rfl⟩ : ∃ m : Nat, x0 = m := ⟨x0.toNat, by omega⟩
  have K2 := K1.trans (Kb.moved M2)
  have O2 := owns_moved O1 M2 hcw
  clear hx0 hx1 C1 M2 O1 K1
  go_wp2
  go_loopw [3, 5] (fun v i wr => ∃ (k : Nat) (l : List Ct) (g vc : Nat), k ≤ m ∧ i = .int .i64 k ∧ v = .slice (some ⟨g, 0, none⟩) l.length vc ∧ Hid (l.length = k) ∧ Is W0 a n cap c wr ∧ Kb c w wr ∧ Hid (wr.ownsRow w.heap.size 37 6 (.slice (some ⟨g, 0, none⟩) l.length vc) l.length (ccells l)) ∧ Hid (Wfs l)) (fun _ i _ => m - (intOf i).toNat)
  case atStart => exact ⟨0, [], w.heap.size, 0, by omega, rfl, rfl, rfl, C2, K2, O2, fun p hp => by simp at hp⟩
  case round =>
    obtain ⟨k, l, g, vc, hk, rfl, rfl, hlk, CR, KR, HO, HW⟩ := hrel
    clear C2 K2 O2
    by_cases hkm : k < m
    · go_wp2_with fail
      refine (ctl_any CR).mono ?_
      rintro e w3 ⟨⟨p, rfl, hwp⟩, C3, K3⟩
      have O3 := own_kb HO.out K3 hcw
      have K3' := KR.trans K3
      have C4 := C3.alloc (.cells #[.int .i64 p.dv, .int .i64 p.no, .int .i64 p.tk, .int .i64 p.tr, .int .i64 p.dy, .int .i64 p.sa] 37)
      have K4 := K3'.alloc (.cells #[.int .i64 p.dv, .int .i64 p.no, .int .i64 p.tk, .int .i64 p.tr, .int .i64 p.dy, .int .i64 p.sa] 37)
      have O4 := own_below O3 (new_below w3 (.cells #[.int .i64 p.dv, .int .i64 p.no, .int .i64 p.tk, .int .i64 p.tr, .int .i64 p.dy, .int .i64 p.sa] 37)) (Nat.le_refl _)
      have HW2 : Hid (Wfs (l ++ [p])) := wfs_snoc HW.out hwp
      have hs3 : w.heap.size ≤ w3.heap.size := K3'.size
      have hs4 : w.heap.size ≤ (w3.alloc (.cells #[.int .i64 p.dv, .int .i64 p.no, .int .i64 p.tk, .int .i64 p.tr, .int .i64 p.dy, .int .i64 p.sa] 37)).heap.size := K4.size
      clear HO HW hwp C3 K3 K3' O3 CR KR
      go_wp2_with (at_builtin; go_loud (refine wpList_append_own_at _ rfl _ _ 25 rfl w.heap.size 37 i0 (lgV ⟨0, 0, 0, 0, 0, 0⟩) 6 48 Try.underlying25 hi hy0 hy1 hy2 rfl (by decide) _ _ _ rfl O4 ⟨w3.heap.size, 0, none⟩ 1 1 (cc1 p) rfl rfl ?c1 ?c2 ?c3 ?c4 ?c5 ?_))
      all_goals try (first | exact six_at | exact cc1_one p)
      case c3 => have := hlk.out; unfold maxLen; omega
      case c4 => have := hlk.out; omega
      case c5 => exact hs4
      intro v' w5 O5 G5 _ _
      have C5 : Is W0 a n cap c w5 := C4.grown G5 (fun h => by have := (O4.lt _ h).1; omega) (fun k h => by have := (O4.lt _ h).1; omega)
      have K5 : Kb c w w5 := K4.grown G5 (fun k h => (O4.lt _ h).1)
      rw [ccells_snoc] at O5
      obtain ⟨va, vc2, rfl, -⟩ := own_form O5
      have e5 : l.length + 1 = (l ++ [p]).length := by simp
      rw [e5] at O5
      obtain ⟨g2, rfl⟩ := own_some O5 (by simp)
      have HO5 : Hid (_) := O5
      clear O4 O5 G5 C4 K4
      go_wp2
      go_roundw
      case rel => exact ⟨k + 1, l ++ [p], g2, vc2, by omega, by go_num, by rw [e5], (by show _ = _; rw [← e5, hlk.out]), C5, K5, HO5, HW2⟩
      case measure => simp [intOf]; omega
    · obtain rfl : k = m := by omega
      go_wp2
      go_ret
      have := hlk.out
      exact ⟨⟨l, g, vc, rfl, HO.out, HW.out, by omega⟩, CR, KR⟩

end Hn
end Go.Proofs.Ytbmfhdlbbaabgaa

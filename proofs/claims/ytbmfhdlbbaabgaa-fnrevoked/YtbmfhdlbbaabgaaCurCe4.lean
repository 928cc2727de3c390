/- Draws of the laws of centres: two centres, and places. -/
import Derived.Test.YtbmfhdlbbaabgaaCurCe3
import Derived.Deep.RegionHeld3
namespace Go.Proofs.Ytbmfhdlbbaabgaa
namespace Hn
open Go.ChangeShapes Go.WideShapes Go.ChangeAt Go.RowKit Go.Joins
open Pk (new_below join_below cell_at heap_new frozen_at lt_of kept heap_old Drawn info_of Room own_form own_below)
open Cur (Is Moved Bytes Kb new_any below_any pickInt_any rowOf_new RowOf owns_moved)
set_option linter.unusedSimpArgs false
set_option linter.unusedVariables false

set_option maxRecDepth 100000 in
set_option maxHeartbeats 8000000 in
theorem drawMerge (W0 : World) (a : Option Addr) (n cap : Nat) (hn : n ≤ 1048576) (B : Bytes W0 a n) :
    Calls Try.prog 21 #[.slice a n cap] W0 fun e w' => (∃ (y : Pl) (o : Ctr) (y2 : Pl) (o2 : Ctr), e = .returned (.tuple #[ceV y o, ceV y2 o2]) ∧ Drw W0.heap.size w' y o ∧ Drw W0.heap.size w' y2 o2) ∧ Below W0.heap.size W0 w' := by
  have N1 : Below W0.heap.size W0 ((W0.alloc (.cells #[.int .i64 0, .slice none 0 0, .slice none 0 0] 27)).alloc (.cells #[.int .i64 0, .slice none 0 0, .slice none 0 0] 27)) := join_below (new_below _ _) (new_below _ _)
  obtain ⟨p1, r1, e1⟩ := two_blocks W0 (.cells #[.int .i64 0, .slice none 0 0, .slice none 0 0] 27) (.cells #[.int .i64 0, .slice none 0 0, .slice none 0 0] 27)
  go_enter Try.func21, Try.ntmps21
  go_wp2_with fail
  refine (new_any ((W0.alloc (.cells #[.int .i64 0, .slice none 0 0, .slice none 0 0] 27)).alloc (.cells #[.int .i64 0, .slice none 0 0, .slice none 0 0] 27)) a n cap hn (B.on N1)).mono ?_
  generalize (W0.alloc (.cells #[.int .i64 0, .slice none 0 0, .slice none 0 0] 27)).alloc (.cells #[.int .i64 0, .slice none 0 0, .slice none 0 0] 27) = W1 at *
  rintro e w2 ⟨rfl, C2⟩
  have hPc : W0.heap.size ≠ W1.heap.size := by omega
  have hRc : W0.heap.size + 1 ≠ W1.heap.size := by omega
  have p2 := kept C2.below (lt_of p1) p1
  have r2 := kept C2.below (lt_of r1) r1
  have hcw := C2.lt
  have hsw : W0.heap.size ≤ w2.heap.size := by omega
  generalize W1.heap.size = c at *
  clear e1 p1 r1 B
  go_wp2_with fail
  refine (centre_any C2).mono ?_
  rintro e w3 ⟨⟨y, o, rfl, D3⟩, C3, K3⟩
  have p3 := K3.at hPc p2
  have r3 := K3.at hRc r2
  clear p2 r2 C2 K3
  have C4 := C3.alloc (ceB y o 27)
  have D4 : Drw w2.heap.size (w3.alloc (ceB y o 27)) y o := D3.on (new_below _ _)
  have p4 := heap_old p3 (ceB y o 27)
  have q4 := heap_new w3 (ceB y o 27)
  have hQc : w3.heap.size ≠ c := by have := C3.lt; omega
  have hQP : w3.heap.size ≠ W0.heap.size := by have := lt_of p3; omega
  have r4 := heap_old r3 (ceB y o 27)
  have hQR : w3.heap.size ≠ W0.heap.size + 1 := by have := lt_of r3; omega
  clear C3 D3 p3 r3
  go_wp2
  generalize w3.heap.size = Q at *
  generalize w3.alloc (ceB y o 27) = w4 at *
  have hRQ : W0.heap.size + 1 ≠ Q := fun h => hQR h.symm
  have hPQ : W0.heap.size ≠ Q := fun h => hQP h.symm
  have CD : Is W1 a n cap c (World.drew w4) := C4.drewN 1
  have HQ : Hid (∀ W, Kb c w4 W → W.heap[Q]? = some (ceB y o 27)) := fun W h => h.at hQc q4
  have HP : Hid (∀ W, Kb c w4 W → W.heap[W0.heap.size]? = some (.cells #[.int .i64 0, .slice none 0 0, .slice none 0 0] 27)) := fun W h => h.at hPc p4
  have HR : Hid (∀ W, Kb c w4 W → W.heap[W0.heap.size + 1]? = some (.cells #[.int .i64 0, .slice none 0 0, .slice none 0 0] 27)) := fun W h => h.at hRc r4
  have HD : Hid (∀ W, Kb c w4 W → Drw W0.heap.size W y o) := fun W h => (D4.kb h hcw).lower hsw
  have a0 : w4.cell? ⟨Q, 0, none⟩ = some (.int .i64 o.ve) := cell_at q4 0
  have a1 : w4.cell? ⟨Q, 1, none⟩ = some (.slice y.a o.ol.length y.c) := cell_at q4 1
  have a2 : w4.cell? ⟨Q, 2, none⟩ = some (.slice y.b o.sl.length y.d) := cell_at q4 2
  have hs4 : W0.heap.size ≤ w4.heap.size := Nat.le_of_lt (lt_of p4)
  have hs5 : c < w4.heap.size := C4.lt
  go_region_held3 (fun w' => w'.cell? ⟨Q, 0, none⟩ = some (.int .i64 o.ve) ∧ w'.cell? ⟨Q, 1, none⟩ = some (.slice y.a o.ol.length y.c) ∧ w'.cell? ⟨Q, 2, none⟩ = some (.slice y.b o.sl.length y.d)) (go_keep) ((go_at_call 30; (with_reducible refine (centre_any CD).mono ?_); rintro e w5 ⟨⟨y2, o2, rfl, D5d⟩, C5, K5d⟩; have K5 : Kb c w4 w5 := ⟨K5d.size, K5d.block⟩; have D5 : Drw w4.heap.size w5 y2 o2 := D5d; clear D5d K5d; have zq := HQ.out _ K5; have zp := HP.out _ K5; have s0 : w5.cell? ⟨Q, 0, none⟩ = some (.int .i64 o.ve) := cell_at zq 0; have s1 : w5.cell? ⟨Q, 1, none⟩ = some (.slice y.a o.ol.length y.c) := cell_at zq 1; have s2 : w5.cell? ⟨Q, 2, none⟩ = some (.slice y.b o.sl.length y.d) := cell_at zq 2; have b0 : w5.cell? ⟨W0.heap.size, 0, none⟩ = some (.int .i64 0) := cell_at zp 0; have b1 : w5.cell? ⟨W0.heap.size, 1, none⟩ = some (.slice none 0 0) := cell_at zp 1; have b2 : w5.cell? ⟨W0.heap.size, 2, none⟩ = some (.slice none 0 0) := cell_at zp 2; have f0 : w5.frozen? ⟨W0.heap.size, 0, none⟩ = false := frozen_at zp 0; have f1 : w5.frozen? ⟨W0.heap.size, 1, none⟩ = false := frozen_at zp 1; have f2 : w5.frozen? ⟨W0.heap.size, 2, none⟩ = false := frozen_at zp 2; have zr := HR.out _ K5; have d0 : w5.cell? ⟨(W0.heap.size + 1), 0, none⟩ = some (.int .i64 0) := cell_at zr 0; have d1 : w5.cell? ⟨(W0.heap.size + 1), 1, none⟩ = some (.slice none 0 0) := cell_at zr 1; have d2 : w5.cell? ⟨(W0.heap.size + 1), 2, none⟩ = some (.slice none 0 0) := cell_at zr 2; have h0 : w5.frozen? ⟨(W0.heap.size + 1), 0, none⟩ = false := frozen_at zr 0; have h1 : w5.frozen? ⟨(W0.heap.size + 1), 1, none⟩ = false := frozen_at zr 1; have h2 : w5.frozen? ⟨(W0.heap.size + 1), 2, none⟩ = false := frozen_at zr 2))
  all_goals
    have BL : Below W0.heap.size W0 w5 := N1.trans (C5.below.mono N1.size)
    have zr2 : (((w5.setCell ⟨W0.heap.size, 0, none⟩ (.int .i64 o.ve)).setCell ⟨W0.heap.size, 1, none⟩ (.slice y.a o.ol.length y.c)).setCell ⟨W0.heap.size, 2, none⟩ (.slice y.b o.sl.length y.d)).heap[W0.heap.size + 1]? = some (.cells #[.int .i64 0, .slice none 0 0, .slice none 0 0] 27) := h_other (i := 2) (h_other (i := 1) (h_other (i := 0) zr (by omega) _) (by omega) _) (by omega) _
    have HD1 : Hid (Drw W0.heap.size ((((((w5.setCell ⟨W0.heap.size, 0, none⟩ (.int .i64 o.ve)).setCell ⟨W0.heap.size, 1, none⟩ (.slice y.a o.ol.length y.c)).setCell ⟨W0.heap.size, 2, none⟩ (.slice y.b o.sl.length y.d)).setCell ⟨(W0.heap.size + 1), 0, none⟩ (.int .i64 o2.ve)).setCell ⟨(W0.heap.size + 1), 1, none⟩ (.slice y2.a o2.ol.length y2.c)).setCell ⟨(W0.heap.size + 1), 2, none⟩ (.slice y2.b o2.sl.length y2.d)) y o) := ((HD.out _ K5).set3 zp _ _ _).set3 zr2 _ _ _
    have HD2 : Hid (Drw W0.heap.size ((((((w5.setCell ⟨W0.heap.size, 0, none⟩ (.int .i64 o.ve)).setCell ⟨W0.heap.size, 1, none⟩ (.slice y.a o.ol.length y.c)).setCell ⟨W0.heap.size, 2, none⟩ (.slice y.b o.sl.length y.d)).setCell ⟨(W0.heap.size + 1), 0, none⟩ (.int .i64 o2.ve)).setCell ⟨(W0.heap.size + 1), 1, none⟩ (.slice y2.a o2.ol.length y2.c)).setCell ⟨(W0.heap.size + 1), 2, none⟩ (.slice y2.b o2.sl.length y2.d)) y2 o2) := ((D5.lower hs4).set3 zp _ _ _).set3 zr2 _ _ _
    clear HD HQ HP HR C4 D4 p4 q4 r4 zq zp zr zr2 CD D5
    go_wp2
    refine bodyPost_ret (v := .tuple #[ceV y o, ceV y2 o2]) (by simp [results, Try.results21, go_sem, b0, b1, b2, d0, d1, d2]) rfl ?_
    exact ⟨⟨y, o, y2, o2, rfl, HD1.out, HD2.out⟩, ((((((BL.setCell (p := ⟨W0.heap.size, 0, none⟩) (Nat.le_refl _) _).setCell (p := ⟨W0.heap.size, 1, none⟩) (Nat.le_refl _) _).setCell (p := ⟨W0.heap.size, 2, none⟩) (Nat.le_refl _) _).setCell (p := ⟨(W0.heap.size + 1), 0, none⟩) (Nat.le_succ _) _).setCell (p := ⟨(W0.heap.size + 1), 1, none⟩) (Nat.le_succ _) _).setCell (p := ⟨(W0.heap.size + 1), 2, none⟩) (Nat.le_succ _) _)⟩

end Hn
end Go.Proofs.Ytbmfhdlbbaabgaa

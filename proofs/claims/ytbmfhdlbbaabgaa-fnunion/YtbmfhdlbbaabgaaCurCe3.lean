/- Draws of the laws of centres. -/
import Derived.Test.YtbmfhdlbbaabgaaCurCe2
import Derived.Deep.RegionHeld3
namespace Go.Proofs.Ytbmfhdlbbaabgaa
namespace Hn
open Go.ChangeShapes Go.WideShapes Go.ChangeAt Go.RowKit Go.Joins
open Pk (new_below join_below cell_at heap_new frozen_at lt_of kept heap_old Drawn info_of Room own_form own_below)
open Cur (Is Moved Bytes Kb new_any below_any pickInt_any rowOf_new RowOf owns_moved)
set_option linter.unusedSimpArgs false
set_option linter.unusedVariables false

/-- A list of controls as it is drawn. -/
structure DrwL (lo : Nat) (w : World) (a : Option Addr) (l : List Ct) (c : Nat) : Prop where
  own : w.ownsRow lo 37 6 (.slice a l.length c) l.length (ccells l)
  some : ∃ g, a = some ⟨g, 0, none⟩
  wf : Wfs l
  len : l.length ≤ 9

theorem DrwL.in {lo : Nat} {w : World} {a : Option Addr} {l : List Ct} {c : Nat} (h : DrwL lo w a l c) : Controls w a l := by
  obtain ⟨a', c', e, J⟩ := own_ctls h.own
  simp only [Value.slice.injEq, true_and] at e
  rw [e.1]
  exact J

theorem DrwL.on {lo : Nat} {w w1 : World} {a : Option Addr} {l : List Ct} {c : Nat} (h : DrwL lo w a l c) (L : Below w.heap.size w w1) : DrwL lo w1 a l c := ⟨own_below h.own L (Nat.le_refl _), h.some, h.wf, h.len⟩

set_option maxRecDepth 100000 in
set_option maxHeartbeats 8000000 in
theorem drawDoubles (W0 : World) (a : Option Addr) (n cap : Nat) (hn : n ≤ 1048576) (B : Bytes W0 a n) :
    Calls Try.prog 19 #[.slice a n cap] W0 fun e w' => (∃ (y : Pl) (o : Ctr), e = .returned (ceV y o) ∧ Drw W0.heap.size w' y o) ∧ Below W0.heap.size W0 w' := by
  have N1 := new_below W0 (.cells #[.int .i64 0, .slice none 0 0, .slice none 0 0] 27)
  have p1 := heap_new W0 (.cells #[.int .i64 0, .slice none 0 0, .slice none 0 0] 27)
  have e1 : (W0.alloc (.cells #[.int .i64 0, .slice none 0 0, .slice none 0 0] 27)).heap.size = W0.heap.size + 1 := Array.size_push ..
  go_enter Try.func19, Try.ntmps19
  go_wp2_with fail
  refine (new_any (W0.alloc (.cells #[.int .i64 0, .slice none 0 0, .slice none 0 0] 27)) a n cap hn (B.on N1)).mono ?_
  generalize W0.alloc (.cells #[.int .i64 0, .slice none 0 0, .slice none 0 0] 27) = W1 at *
  rintro e w2 ⟨rfl, C2⟩
  have hPc : W0.heap.size ≠ W1.heap.size := by omega
  have p2 := kept C2.below (lt_of p1) p1
  have hcw := C2.lt
  have hsw : W0.heap.size ≤ w2.heap.size := by omega
  generalize W1.heap.size = c at *
  clear e1 p1 B
  go_wp2_with fail
  refine (centre_any C2).mono ?_
  rintro e w3 ⟨⟨y, o, rfl, D3⟩, C3, K3⟩
  have p3 := K3.at hPc p2
  clear p2 C2 K3
  have b0 : w3.cell? ⟨W0.heap.size, 0, none⟩ = some (.int .i64 0) := cell_at p3 0
  have b1 : w3.cell? ⟨W0.heap.size, 1, none⟩ = some (.slice none 0 0) := cell_at p3 1
  have b2 : w3.cell? ⟨W0.heap.size, 2, none⟩ = some (.slice none 0 0) := cell_at p3 2
  have f0 : w3.frozen? ⟨W0.heap.size, 0, none⟩ = false := frozen_at p3 0
  have f1 : w3.frozen? ⟨W0.heap.size, 1, none⟩ = false := frozen_at p3 1
  have f2 : w3.frozen? ⟨W0.heap.size, 2, none⟩ = false := frozen_at p3 2
  have BL : Below W0.heap.size W0 w3 := N1.trans (C3.below.mono N1.size)
  have HD : Hid (Drw W0.heap.size (((w3.setCell ⟨W0.heap.size, 0, none⟩ (.int .i64 o.ve)).setCell ⟨W0.heap.size, 1, none⟩ (.slice y.a o.ol.length y.c)).setCell ⟨W0.heap.size, 2, none⟩ (.slice y.b o.sl.length y.d)) y o) := (D3.lower hsw).set3 p3 _ _ _
  clear D3 C3 p3
  go_wp2
  refine bodyPost_ret (v := ceV y o) (by simp [results, Try.results19, go_sem, b0, b1, b2]) rfl ?_
  exact ⟨⟨y, o, rfl, HD.out⟩, ((BL.setCell (p := ⟨W0.heap.size, 0, none⟩) (Nat.le_refl _) _).setCell (p := ⟨W0.heap.size, 1, none⟩) (Nat.le_refl _) _).setCell (p := ⟨W0.heap.size, 2, none⟩) (Nat.le_refl _) _⟩

set_option maxRecDepth 100000 in
set_option maxHeartbeats 8000000 in
theorem drawMissing (W0 : World) (a : Option Addr) (n cap : Nat) (hn : n ≤ 1048576) (B : Bytes W0 a n) :
    Calls Try.prog 20 #[.slice a n cap] W0 fun e w' => (∃ (y : Pl) (o : Ctr) (x : Int), e = .returned (.tuple #[ceV y o, .int .i64 x]) ∧ Drw W0.heap.size w' y o) ∧ Below W0.heap.size W0 w' := by
  have N1 := new_below W0 (.cells #[.int .i64 0, .slice none 0 0, .slice none 0 0] 27)
  have p1 := heap_new W0 (.cells #[.int .i64 0, .slice none 0 0, .slice none 0 0] 27)
  have e1 : (W0.alloc (.cells #[.int .i64 0, .slice none 0 0, .slice none 0 0] 27)).heap.size = W0.heap.size + 1 := Array.size_push ..
  go_enter Try.func20, Try.ntmps20
  go_wp2_with fail
  refine (new_any (W0.alloc (.cells #[.int .i64 0, .slice none 0 0, .slice none 0 0] 27)) a n cap hn (B.on N1)).mono ?_
  generalize W0.alloc (.cells #[.int .i64 0, .slice none 0 0, .slice none 0 0] 27) = W1 at *
  rintro e w2 ⟨rfl, C2⟩
  have hPc : W0.heap.size ≠ W1.heap.size := by omega
  have p2 := kept C2.below (lt_of p1) p1
  have hcw := C2.lt
  have hsw : W0.heap.size ≤ w2.heap.size := by omega
  generalize W1.heap.size = c at *
  clear e1 p1 B
  go_wp2_with fail
  refine (centre_any C2).mono ?_
  rintro e w3 ⟨⟨y, o, rfl, D3⟩, C3, K3⟩
  have p3 := K3.at hPc p2
  clear p2 C2 K3
  have C4 := C3.alloc (ceB y o 27)
  have D4 : Drw w2.heap.size (w3.alloc (ceB y o 27)) y o := D3.on (new_below _ _)
  have p4 := heap_old p3 (ceB y o 27)
  have q4 := heap_new w3 (ceB y o 27)
  have hQc : w3.heap.size ≠ c := by have := C3.lt; omega
  have hQP : w3.heap.size ≠ W0.heap.size := by have := lt_of p3; omega
  clear C3 D3 p3
  go_wp2
  generalize w3.heap.size = Q at *
  generalize w3.alloc (ceB y o 27) = w4 at *
  have hPQ : W0.heap.size ≠ Q := fun h => hQP h.symm
  have CD : Is W1 a n cap c (World.drew w4) := C4.drewN 1
  have HQ : Hid (∀ W, Kb c w4 W → W.heap[Q]? = some (ceB y o 27)) := fun W h => h.at hQc q4
  have HP : Hid (∀ W, Kb c w4 W → W.heap[W0.heap.size]? = some (.cells #[.int .i64 0, .slice none 0 0, .slice none 0 0] 27)) := fun W h => h.at hPc p4
  have HD : Hid (∀ W, Kb c w4 W → Drw W0.heap.size W y o) := fun W h => (D4.kb h hcw).lower hsw
  have a0 : w4.cell? ⟨Q, 0, none⟩ = some (.int .i64 o.ve) := cell_at q4 0
  have a1 : w4.cell? ⟨Q, 1, none⟩ = some (.slice y.a o.ol.length y.c) := cell_at q4 1
  have a2 : w4.cell? ⟨Q, 2, none⟩ = some (.slice y.b o.sl.length y.d) := cell_at q4 2
  go_region_held3 (fun w' => w'.cell? ⟨Q, 0, none⟩ = some (.int .i64 o.ve) ∧ w'.cell? ⟨Q, 1, none⟩ = some (.slice y.a o.ol.length y.c) ∧ w'.cell? ⟨Q, 2, none⟩ = some (.slice y.b o.sl.length y.d)) (go_keep) ((go_at_call 32; (with_reducible refine (below_any CD 5).mono ?_); rintro e w5 ⟨⟨x, rfl, hx0, hx1⟩, C5, M5⟩; have K5 : Kb c w4 w5 := Kb.moved ⟨M5.size, M5.block⟩; have zq := HQ.out _ K5; have zp := HP.out _ K5; have s0 : w5.cell? ⟨Q, 0, none⟩ = some (.int .i64 o.ve) := cell_at zq 0; have s1 : w5.cell? ⟨Q, 1, none⟩ = some (.slice y.a o.ol.length y.c) := cell_at zq 1; have s2 : w5.cell? ⟨Q, 2, none⟩ = some (.slice y.b o.sl.length y.d) := cell_at zq 2; have b0 : w5.cell? ⟨W0.heap.size, 0, none⟩ = some (.int .i64 0) := cell_at zp 0; have b1 : w5.cell? ⟨W0.heap.size, 1, none⟩ = some (.slice none 0 0) := cell_at zp 1; have b2 : w5.cell? ⟨W0.heap.size, 2, none⟩ = some (.slice none 0 0) := cell_at zp 2; have f0 : w5.frozen? ⟨W0.heap.size, 0, none⟩ = false := frozen_at zp 0; have f1 : w5.frozen? ⟨W0.heap.size, 1, none⟩ = false := frozen_at zp 1; have f2 : w5.frozen? ⟨W0.heap.size, 2, none⟩ = false := frozen_at zp 2))
  all_goals
    have BL : Below W0.heap.size W0 w5 := N1.trans (C5.below.mono N1.size)
    have HDF : Hid (Drw W0.heap.size (((w5.setCell ⟨W0.heap.size, 0, none⟩ (.int .i64 o.ve)).setCell ⟨W0.heap.size, 1, none⟩ (.slice y.a o.ol.length y.c)).setCell ⟨W0.heap.size, 2, none⟩ (.slice y.b o.sl.length y.d)) y o) := (HD.out _ K5).set3 zp _ _ _
    clear HD HQ HP C4 D4 p4 q4 zq zp CD
    go_wp2
    refine bodyPost_ret (v := .tuple #[ceV y o, .int .i64 x]) (by simp [results, Try.results20, go_sem, b0, b1, b2]) rfl ?_
    exact ⟨⟨y, o, x, rfl, HDF.out⟩, ((BL.setCell (p := ⟨W0.heap.size, 0, none⟩) (Nat.le_refl _) _).setCell (p := ⟨W0.heap.size, 1, none⟩) (Nat.le_refl _) _).setCell (p := ⟨W0.heap.size, 2, none⟩) (Nat.le_refl _) _⟩

set_option maxRecDepth 100000 in
set_option maxHeartbeats 8000000 in
theorem drawRevoke (W0 : World) (a : Option Addr) (n cap : Nat) (hn : n ≤ 1048576) (B : Bytes W0 a n) :
    Calls Try.prog 15 #[.slice a n cap] W0 fun e w' => (∃ (y : Pl) (o : Ctr) (x : Int), e = .returned (.tuple #[ceV y o, .int .i64 x]) ∧ Drw W0.heap.size w' y o) ∧ Below W0.heap.size W0 w' := by
  have N1 := new_below W0 (.cells #[.int .i64 0, .slice none 0 0, .slice none 0 0] 27)
  have p1 := heap_new W0 (.cells #[.int .i64 0, .slice none 0 0, .slice none 0 0] 27)
  have e1 : (W0.alloc (.cells #[.int .i64 0, .slice none 0 0, .slice none 0 0] 27)).heap.size = W0.heap.size + 1 := Array.size_push ..
  go_enter Try.func15, Try.ntmps15
  go_wp2_with fail
  refine (new_any (W0.alloc (.cells #[.int .i64 0, .slice none 0 0, .slice none 0 0] 27)) a n cap hn (B.on N1)).mono ?_
  generalize W0.alloc (.cells #[.int .i64 0, .slice none 0 0, .slice none 0 0] 27) = W1 at *
  rintro e w2 ⟨rfl, C2⟩
  have hPc : W0.heap.size ≠ W1.heap.size := by omega
  have p2 := kept C2.below (lt_of p1) p1
  have hcw := C2.lt
  have hsw : W0.heap.size ≤ w2.heap.size := by omega
  generalize W1.heap.size = c at *
  clear e1 p1 B
  go_wp2_with fail
  refine (centre_any C2).mono ?_
  rintro e w3 ⟨⟨y, o, rfl, D3⟩, C3, K3⟩
  have p3 := K3.at hPc p2
  clear p2 C2 K3
  have C4 := C3.alloc (ceB y o 27)
  have D4 : Drw w2.heap.size (w3.alloc (ceB y o 27)) y o := D3.on (new_below _ _)
  have p4 := heap_old p3 (ceB y o 27)
  have q4 := heap_new w3 (ceB y o 27)
  have hQc : w3.heap.size ≠ c := by have := C3.lt; omega
  have hQP : w3.heap.size ≠ W0.heap.size := by have := lt_of p3; omega
  clear C3 D3 p3
  go_wp2
  generalize w3.heap.size = Q at *
  generalize w3.alloc (ceB y o 27) = w4 at *
  have hPQ : W0.heap.size ≠ Q := fun h => hQP h.symm
  have CD : Is W1 a n cap c (World.drew w4) := C4.drewN 1
  have HQ : Hid (∀ W, Kb c w4 W → W.heap[Q]? = some (ceB y o 27)) := fun W h => h.at hQc q4
  have HP : Hid (∀ W, Kb c w4 W → W.heap[W0.heap.size]? = some (.cells #[.int .i64 0, .slice none 0 0, .slice none 0 0] 27)) := fun W h => h.at hPc p4
  have HD : Hid (∀ W, Kb c w4 W → Drw W0.heap.size W y o) := fun W h => (D4.kb h hcw).lower hsw
  have a0 : w4.cell? ⟨Q, 0, none⟩ = some (.int .i64 o.ve) := cell_at q4 0
  have a1 : w4.cell? ⟨Q, 1, none⟩ = some (.slice y.a o.ol.length y.c) := cell_at q4 1
  have a2 : w4.cell? ⟨Q, 2, none⟩ = some (.slice y.b o.sl.length y.d) := cell_at q4 2
  go_region_held3 (fun w' => w'.cell? ⟨Q, 0, none⟩ = some (.int .i64 o.ve) ∧ w'.cell? ⟨Q, 1, none⟩ = some (.slice y.a o.ol.length y.c) ∧ w'.cell? ⟨Q, 2, none⟩ = some (.slice y.b o.sl.length y.d)) (go_keep) (first
    | (go_at_call 32; (with_reducible refine (below_any CD 9).mono ?_); rintro e w5 ⟨⟨x, rfl, hx0, hx1⟩, C5, M5⟩; have K5 : Kb c w4 w5 := Kb.moved ⟨M5.size, M5.block⟩; have hx2 := hx1 (by omega); obtain ⟨d, hd⟩ : ∃ d : Int, 1 + x = d := ⟨_, rfl⟩; have qa : wrap64 (1 + x) = d := (by rw [hd]; unfold wrap64; omega); have qb : IntKind.i64.wrap (1 + x) = d := (by rw [hd, IntKind.wrap_i64]; omega); clear hd hx0 hx1 hx2; have zq := HQ.out _ K5; have r0 : w5.cell? ⟨Q, 0, none⟩ = some (.int .i64 o.ve) := cell_at zq 0; have r1 : w5.cell? ⟨Q, 1, none⟩ = some (.slice y.a o.ol.length y.c) := cell_at zq 1; have r2 : w5.cell? ⟨Q, 2, none⟩ = some (.slice y.b o.sl.length y.d) := cell_at zq 2)
    | (go_at_call 43; (with_reducible refine (pickInt_any (C5.alloc (.cells #[.int .i64 d, .int .i64 3, .int .i64 0, .int .i64 999999999, .int .i64 1000000000] 3)) (fun _ => True) w5.heap.size 5 5 ?_ ?_ ?_ ?_).mono ?_); (have := C5.lt; omega); omega; omega; (exact rowOf_new (fun _ => True) w5 [d, 3, 0, 999999999, 1000000000] 3 (fun _ _ => trivial)); rintro e w6 ⟨⟨x2, rfl, -⟩, C6, M6⟩; have K6 : Kb c w4 w6 := (K5.alloc (.cells #[.int .i64 d, .int .i64 3, .int .i64 0, .int .i64 999999999, .int .i64 1000000000] 3)).trans (Kb.moved M6); have zq := HQ.out _ K6; have zp := HP.out _ K6; have s0 : w6.cell? ⟨Q, 0, none⟩ = some (.int .i64 o.ve) := cell_at zq 0; have s1 : w6.cell? ⟨Q, 1, none⟩ = some (.slice y.a o.ol.length y.c) := cell_at zq 1; have s2 : w6.cell? ⟨Q, 2, none⟩ = some (.slice y.b o.sl.length y.d) := cell_at zq 2; have b0 : w6.cell? ⟨W0.heap.size, 0, none⟩ = some (.int .i64 0) := cell_at zp 0; have b1 : w6.cell? ⟨W0.heap.size, 1, none⟩ = some (.slice none 0 0) := cell_at zp 1; have b2 : w6.cell? ⟨W0.heap.size, 2, none⟩ = some (.slice none 0 0) := cell_at zp 2; have f0 : w6.frozen? ⟨W0.heap.size, 0, none⟩ = false := frozen_at zp 0; have f1 : w6.frozen? ⟨W0.heap.size, 1, none⟩ = false := frozen_at zp 1; have f2 : w6.frozen? ⟨W0.heap.size, 2, none⟩ = false := frozen_at zp 2))
  all_goals
    have BL : Below W0.heap.size W0 w6 := N1.trans (C6.below.mono N1.size)
    have HDF : Hid (Drw W0.heap.size (((w6.setCell ⟨W0.heap.size, 0, none⟩ (.int .i64 o.ve)).setCell ⟨W0.heap.size, 1, none⟩ (.slice y.a o.ol.length y.c)).setCell ⟨W0.heap.size, 2, none⟩ (.slice y.b o.sl.length y.d)) y o) := (HD.out _ K6).set3 zp _ _ _
    clear HD HQ HP C4 D4 p4 q4 zq zp CD
    go_wp2
    refine bodyPost_ret (v := .tuple #[ceV y o, .int .i64 x2]) (by simp [results, Try.results15, go_sem, b0, b1, b2]) rfl ?_
    exact ⟨⟨y, o, x2, rfl, HDF.out⟩, ((BL.setCell (p := ⟨W0.heap.size, 0, none⟩) (Nat.le_refl _) _).setCell (p := ⟨W0.heap.size, 1, none⟩) (Nat.le_refl _) _).setCell (p := ⟨W0.heap.size, 2, none⟩) (Nat.le_refl _) _⟩

set_option maxRecDepth 100000 in
set_option maxHeartbeats 8000000 in
theorem drawDeliver (W0 : World) (a : Option Addr) (n cap : Nat) (hn : n ≤ 1048576) (B : Bytes W0 a n) :
    Calls Try.prog 6 #[.slice a n cap] W0 fun e w' => (∃ (y : Pl) (o : Ctr) (b : Option Addr) (l : List Ct) (vc : Nat), e = .returned (.tuple #[ceV y o, .slice b l.length vc]) ∧ Drw W0.heap.size w' y o ∧ DrwL W0.heap.size w' b l vc) ∧ Below W0.heap.size W0 w' := by
  have N1 := new_below W0 (.cells #[.int .i64 0, .slice none 0 0, .slice none 0 0] 27)
  have p1 := heap_new W0 (.cells #[.int .i64 0, .slice none 0 0, .slice none 0 0] 27)
  have e1 : (W0.alloc (.cells #[.int .i64 0, .slice none 0 0, .slice none 0 0] 27)).heap.size = W0.heap.size + 1 := Array.size_push ..
  go_enter Try.func6, Try.ntmps6
  go_wp2_with fail
  refine (new_any (W0.alloc (.cells #[.int .i64 0, .slice none 0 0, .slice none 0 0] 27)) a n cap hn (B.on N1)).mono ?_
  generalize W0.alloc (.cells #[.int .i64 0, .slice none 0 0, .slice none 0 0] 27) = W1 at *
  rintro e w2 ⟨rfl, C2⟩
  have hPc : W0.heap.size ≠ W1.heap.size := by omega
  have p2 := kept C2.below (lt_of p1) p1
  have hcw := C2.lt
  have hsw : W0.heap.size ≤ w2.heap.size := by omega
  generalize W1.heap.size = c at *
  clear e1 p1 B
  go_wp2_with fail
  refine (centre_any C2).mono ?_
  rintro e w3 ⟨⟨y, o, rfl, D3⟩, C3, K3⟩
  have p3 := K3.at hPc p2
  clear p2 C2 K3
  have C4 := C3.alloc (ceB y o 27)
  have D4 : Drw w2.heap.size (w3.alloc (ceB y o 27)) y o := D3.on (new_below _ _)
  have p4 := heap_old p3 (ceB y o 27)
  have q4 := heap_new w3 (ceB y o 27)
  have hQc : w3.heap.size ≠ c := by have := C3.lt; omega
  have hQP : w3.heap.size ≠ W0.heap.size := by have := lt_of p3; omega
  clear C3 D3 p3
  go_wp2
  generalize w3.heap.size = Q at *
  generalize w3.alloc (ceB y o 27) = w4 at *
  have hPQ : W0.heap.size ≠ Q := fun h => hQP h.symm
  have CD : Is W1 a n cap c (World.drew w4) := C4.drewN 1
  have HQ : Hid (∀ W, Kb c w4 W → W.heap[Q]? = some (ceB y o 27)) := fun W h => h.at hQc q4
  have HP : Hid (∀ W, Kb c w4 W → W.heap[W0.heap.size]? = some (.cells #[.int .i64 0, .slice none 0 0, .slice none 0 0] 27)) := fun W h => h.at hPc p4
  have HD : Hid (∀ W, Kb c w4 W → Drw W0.heap.size W y o) := fun W h => (D4.kb h hcw).lower hsw
  have a0 : w4.cell? ⟨Q, 0, none⟩ = some (.int .i64 o.ve) := cell_at q4 0
  have a1 : w4.cell? ⟨Q, 1, none⟩ = some (.slice y.a o.ol.length y.c) := cell_at q4 1
  have a2 : w4.cell? ⟨Q, 2, none⟩ = some (.slice y.b o.sl.length y.d) := cell_at q4 2
  have hs4 : W0.heap.size ≤ w4.heap.size := Nat.le_of_lt (lt_of p4)
  go_region_held3 (fun w' => w'.cell? ⟨Q, 0, none⟩ = some (.int .i64 o.ve) ∧ w'.cell? ⟨Q, 1, none⟩ = some (.slice y.a o.ol.length y.c) ∧ w'.cell? ⟨Q, 2, none⟩ = some (.slice y.b o.sl.length y.d)) (go_keep) ((go_at_call 31; (with_reducible refine (list_any CD).mono ?_); rintro e w5 ⟨⟨l, g, vc, rfl, O5, hwl, hl9⟩, C5, K5d⟩; have K5 : Kb c w4 w5 := ⟨K5d.size, K5d.block⟩; have zq := HQ.out _ K5; have zp := HP.out _ K5; have s0 : w5.cell? ⟨Q, 0, none⟩ = some (.int .i64 o.ve) := cell_at zq 0; have s1 : w5.cell? ⟨Q, 1, none⟩ = some (.slice y.a o.ol.length y.c) := cell_at zq 1; have s2 : w5.cell? ⟨Q, 2, none⟩ = some (.slice y.b o.sl.length y.d) := cell_at zq 2; have b0 : w5.cell? ⟨W0.heap.size, 0, none⟩ = some (.int .i64 0) := cell_at zp 0; have b1 : w5.cell? ⟨W0.heap.size, 1, none⟩ = some (.slice none 0 0) := cell_at zp 1; have b2 : w5.cell? ⟨W0.heap.size, 2, none⟩ = some (.slice none 0 0) := cell_at zp 2; have f0 : w5.frozen? ⟨W0.heap.size, 0, none⟩ = false := frozen_at zp 0; have f1 : w5.frozen? ⟨W0.heap.size, 1, none⟩ = false := frozen_at zp 1; have f2 : w5.frozen? ⟨W0.heap.size, 2, none⟩ = false := frozen_at zp 2))
  all_goals
    have BL : Below W0.heap.size W0 w5 := N1.trans (C5.below.mono N1.size)
    have HDF : Hid (Drw W0.heap.size (((w5.setCell ⟨W0.heap.size, 0, none⟩ (.int .i64 o.ve)).setCell ⟨W0.heap.size, 1, none⟩ (.slice y.a o.ol.length y.c)).setCell ⟨W0.heap.size, 2, none⟩ (.slice y.b o.sl.length y.d)) y o) := (HD.out _ K5).set3 zp _ _ _
    have HL : Hid (DrwL W0.heap.size (((w5.setCell ⟨W0.heap.size, 0, none⟩ (.int .i64 o.ve)).setCell ⟨W0.heap.size, 1, none⟩ (.slice y.a o.ol.length y.c)).setCell ⟨W0.heap.size, 2, none⟩ (.slice y.b o.sl.length y.d)) (some ⟨g, 0, none⟩) l vc) := by
      have h1 := h_set (i := 0) zp (.int .i64 o.ve)
      have h2 := h_set (i := 1) h1 (.slice y.a o.ol.length y.c)
      exact ⟨own_typed (own_typed (own_typed (own_lower O5 hs4) zp (by decide)) h1 (by decide)) h2 (by decide), ⟨_, rfl⟩, hwl, hl9⟩
    clear O5
    clear HD HQ HP C4 D4 p4 q4 zq zp CD
    go_wp2
    refine bodyPost_ret (v := .tuple #[ceV y o, .slice (some ⟨g, 0, none⟩) l.length vc]) (by simp [results, Try.results6, go_sem, b0, b1, b2]) rfl ?_
    exact ⟨⟨y, o, some ⟨g, 0, none⟩, l, vc, rfl, HDF.out, HL.out⟩, ((BL.setCell (p := ⟨W0.heap.size, 0, none⟩) (Nat.le_refl _) _).setCell (p := ⟨W0.heap.size, 1, none⟩) (Nat.le_refl _) _).setCell (p := ⟨W0.heap.size, 2, none⟩) (Nat.le_refl _) _⟩

end Hn
end Go.Proofs.Ytbmfhdlbbaabgaa

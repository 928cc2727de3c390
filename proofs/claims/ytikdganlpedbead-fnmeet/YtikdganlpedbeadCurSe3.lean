/- Draws for the laws of seats: two holds. -/
import Derived.Test.YtikdganlpedbeadCurTnB
import Derived.Test.YtikdganlpedbeadSeBestI
import Derived.Deep.Cut
namespace Go.Proofs.Ytikdganlpedbead
namespace Se
open Go.ChangeShapes Go.WideShapes Go.ChangeAt Go.RowKit
open Tn (Hd St trV trB Stops scells own_kb own_other)
open Pk (new_below join_below cell_at heap_new frozen_at lt_of kept heap_old info_of own_form own_below Room)
open Cur (Is Moved Bytes Kb new_any once_any below_any pickInt_any rowOf_new)
set_option linter.unusedSimpArgs false
set_option linter.unusedVariables false

theorem Bw.kb {w w1 : World} {X c : Nat} {p : Hl} (h : Bw w X p) (K : Kb c w w1) (hc : X ≠ c) : Bw w1 X p := by
  have e := K.block X h.2.1 hc
  refine ⟨h.1.blk e, Nat.lt_of_lt_of_le h.2.1 K.size, fun i => ?_⟩
  rw [World.frozen?_of_block (a := ⟨X, i, none⟩) e]
  exact h.2.2 i

theorem Bw.other {w : World} {X Y i : Nat} {p : Hl} {u : Value} (h : Bw w X p) (hne : X ≠ Y) : Bw (w.setCell ⟨Y, i, none⟩ u) X p := by
  have e := Below.heap_setCell w ⟨Y, i, none⟩ u X hne
  refine ⟨h.1.blk e, by rw [World.size_setCell]; exact h.2.1, fun j => ?_⟩
  rw [World.frozen?_of_block (a := ⟨X, j, none⟩) e]
  exact h.2.2 j

theorem set7_blk {w : World} {X Y : Nat} {p : Hl} (h : Y ≠ X) : (set7 w X p).heap[Y]? = w.heap[Y]? := by
  rw [Below.heap_setCell _ ⟨X, 6, none⟩ _ Y h, Below.heap_setCell _ ⟨X, 5, none⟩ _ Y h, Below.heap_setCell _ ⟨X, 4, none⟩ _ Y h, Below.heap_setCell _ ⟨X, 3, none⟩ _ Y h, Below.heap_setCell _ ⟨X, 2, none⟩ _ Y h, Below.heap_setCell _ ⟨X, 1, none⟩ _ Y h, Below.heap_setCell _ ⟨X, 0, none⟩ _ Y h]

theorem Bw.off7 {w : World} {X Y : Nat} {p q : Hl} (h : Bw w X q) (hne : X ≠ Y) : Bw (set7 w Y p) X q := by
  have e := set7_blk (w := w) (p := p) hne
  refine ⟨h.1.blk e, by rw [World.size_setCell, World.size_setCell, World.size_setCell, World.size_setCell, World.size_setCell, World.size_setCell, World.size_setCell]; exact h.2.1, fun j => ?_⟩
  rw [World.frozen?_of_block (a := ⟨X, j, none⟩) e]
  exact h.2.2 j

theorem Bw.put3 {w : World} {X : Nat} {p : Hl} (h : Bw w X p) (x : Int) : Bw (w.setCell ⟨X, 3, none⟩ (.int .i64 x)) X { p with se := x } := by
  obtain ⟨⟨h0, h1, h2, h3, h4, h5, h6⟩, hX, hf⟩ := h
  refine ⟨?_, by rw [World.size_setCell]; exact hX, fun i => by rw [World.frozen?_setCell]; exact hf i⟩
  unfold Bx
  rw [set_cell h0, set_cell h1, set_cell h2, set_cell h3, set_cell h4, set_cell h5, set_cell h6]
  simp

theorem Bw.put4 {w : World} {X : Nat} {p : Hl} (h : Bw w X p) (x : Int) : Bw (w.setCell ⟨X, 4, none⟩ (.int .i64 x)) X { p with ba := x } := by
  obtain ⟨⟨h0, h1, h2, h3, h4, h5, h6⟩, hX, hf⟩ := h
  refine ⟨?_, by rw [World.size_setCell]; exact hX, fun i => by rw [World.frozen?_setCell]; exact hf i⟩
  unfold Bx
  rw [set_cell h0, set_cell h1, set_cell h2, set_cell h3, set_cell h4, set_cell h5, set_cell h6]
  simp

theorem Bw.put5 {w : World} {X : Nat} {p : Hl} (h : Bw w X p) (x : Int) : Bw (w.setCell ⟨X, 5, none⟩ (.int .i64 x)) X { p with be := x } := by
  obtain ⟨⟨h0, h1, h2, h3, h4, h5, h6⟩, hX, hf⟩ := h
  refine ⟨?_, by rw [World.size_setCell]; exact hX, fun i => by rw [World.frozen?_setCell]; exact hf i⟩
  unfold Bx
  rw [set_cell h0, set_cell h1, set_cell h2, set_cell h3, set_cell h4, set_cell h5, set_cell h6]
  simp

set_option maxRecDepth 100000 in
set_option maxHeartbeats 4000000 in
theorem drawMeet (W0 : World) (a : Option Addr) (n cap : Nat) (hn : n ≤ 1048576) (B : Bytes W0 a n) :
    Calls Try.prog 57 #[.slice a n cap] W0 fun e w' => (∃ p q : Hl, e = .returned (.tuple #[lgV p, lgV q])) ∧ Below W0.heap.size W0 w' := by
  have e1 : (W0.alloc (.cells #[.int .i64 0, .int .i64 0, .int .i64 0, .int .i64 0, .int .i64 0, .int .i64 0, .int .i64 0] 77)).heap.size = W0.heap.size + 1 := Array.size_push ..
  have N := join_below (new_below W0 (.cells #[.int .i64 0, .int .i64 0, .int .i64 0, .int .i64 0, .int .i64 0, .int .i64 0, .int .i64 0] 77)) (new_below (W0.alloc (.cells #[.int .i64 0, .int .i64 0, .int .i64 0, .int .i64 0, .int .i64 0, .int .i64 0, .int .i64 0] 77)) (.cells #[.int .i64 0, .int .i64 0, .int .i64 0, .int .i64 0, .int .i64 0, .int .i64 0, .int .i64 0] 77))
  have R1 : Bw ((W0.alloc (.cells #[.int .i64 0, .int .i64 0, .int .i64 0, .int .i64 0, .int .i64 0, .int .i64 0, .int .i64 0] 77)).alloc (.cells #[.int .i64 0, .int .i64 0, .int .i64 0, .int .i64 0, .int .i64 0, .int .i64 0, .int .i64 0] 77)) W0.heap.size zH := Bw.on (Bw.new W0 zH 77) (new_below _ _)
  have R2 : Bw ((W0.alloc (.cells #[.int .i64 0, .int .i64 0, .int .i64 0, .int .i64 0, .int .i64 0, .int .i64 0, .int .i64 0] 77)).alloc (.cells #[.int .i64 0, .int .i64 0, .int .i64 0, .int .i64 0, .int .i64 0, .int .i64 0, .int .i64 0] 77)) (W0.heap.size + 1) zH := by
    have h := Bw.new (W0.alloc (.cells #[.int .i64 0, .int .i64 0, .int .i64 0, .int .i64 0, .int .i64 0, .int .i64 0, .int .i64 0] 77)) zH 77
    rw [e1] at h
    exact h
  have HN := new_any ((W0.alloc (.cells #[.int .i64 0, .int .i64 0, .int .i64 0, .int .i64 0, .int .i64 0, .int .i64 0, .int .i64 0] 77)).alloc (.cells #[.int .i64 0, .int .i64 0, .int .i64 0, .int .i64 0, .int .i64 0, .int .i64 0, .int .i64 0] 77)) a n cap hn (B.on N)
  have HR1 : Hid (Bw _ _ _) := R1
  have HR2 : Hid (Bw _ _ _) := R2
  have hz : W0.heap.size + 1 < ((W0.alloc (.cells #[.int .i64 0, .int .i64 0, .int .i64 0, .int .i64 0, .int .i64 0, .int .i64 0, .int .i64 0] 77)).alloc (.cells #[.int .i64 0, .int .i64 0, .int .i64 0, .int .i64 0, .int .i64 0, .int .i64 0, .int .i64 0] 77)).heap.size := R2.2.1
  clear R1 R2 e1
  go_enter Try.func57, Try.ntmps57
  go_wp2_with fail
  refine HN.mono ?_
  generalize (W0.alloc (.cells #[.int .i64 0, .int .i64 0, .int .i64 0, .int .i64 0, .int .i64 0, .int .i64 0, .int .i64 0] 77)).alloc (.cells #[.int .i64 0, .int .i64 0, .int .i64 0, .int .i64 0, .int .i64 0, .int .i64 0, .int .i64 0] 77) = W1 at *
  rintro e w2 ⟨rfl, C2⟩
  have K2 : Kb W1.heap.size W1 w2 := Kb.of _ C2.below
  generalize hcc : W1.heap.size = c at *
  clear HN
  go_wp2_with fail
  refine (below_any C2 2).mono ?_
  rintro e w3 ⟨⟨x1, rfl, hx1a, hx1b⟩, C3, M3⟩
  have hx1c := hx1b (by omega)
  have K3 := K2.trans (Kb.moved M3)
  clear C2 K2 M3 hx1b
  go_wp2_with fail
  refine (below_any C3 2).mono ?_
  rintro e w4 ⟨⟨x2, rfl, hx2a, hx2b⟩, C4, M4⟩
  have hx2c := hx2b (by omega)
  have K4 := K3.trans (Kb.moved M4)
  clear C3 K3 M4 hx2b
  go_wp2_with fail
  refine (below_any C4 4).mono ?_
  rintro e w5 ⟨⟨x3, rfl, hx3a, hx3b⟩, C5, M5⟩
  have hx3c := hx3b (by omega)
  have K5 := K4.trans (Kb.moved M5)
  have C6 := C5.alloc (.cells #[.int .i64 (1 + x1), .int .i64 5, .int .i64 1, .int .i64 (1 + x2), .int .i64 x3, .int .i64 0, .int .i64 1] 77)
  have K6 := K5.alloc (.cells #[.int .i64 (1 + x1), .int .i64 5, .int .i64 1, .int .i64 (1 + x2), .int .i64 x3, .int .i64 0, .int .i64 1] 77)
  have BA6 : Bw (w5.alloc (.cells #[.int .i64 (1 + x1), .int .i64 5, .int .i64 1, .int .i64 (1 + x2), .int .i64 x3, .int .i64 0, .int .i64 1] 77)) w5.heap.size ⟨1 + x1, 5, 1, 1 + x2, x3, 0, 1⟩ := Bw.new w5 ⟨1 + x1, 5, 1, 1 + x2, x3, 0, 1⟩ 77
  have hXc : w5.heap.size ≠ c := by have := C5.lt; omega
  have hXW : W1.heap.size ≤ w5.heap.size := C5.below.size
  clear C4 K4 M5 hx3b K5
  go_wp2
  generalize w5.alloc (.cells #[.int .i64 (1 + x1), .int .i64 5, .int .i64 1, .int .i64 (1 + x2), .int .i64 x3, .int .i64 0, .int .i64 1] 77) = w6 at *
  generalize w5.heap.size = X at *
  have HBX : Hid (Bw w6 X ⟨1 + x1, 5, 1, 1 + x2, x3, 0, 1⟩) := BA6
  clear BA6
  go_cut [] from 7 (fun wc => ∃ p : Hl, Hid (Bw wc X p) ∧ Is W1 a n cap c wc ∧ Kb c W1 wc)
  case first =>
    have CD : Is W1 a n cap c (World.drew _) := C6.drewN 1
    have KD : Kb c W1 (World.drew _) := K6.drew
    have BD : Bw (World.drew _) X ⟨1 + x1, 5, 1, 1 + x2, x3, 0, 1⟩ := ⟨HBX.out.1, HBX.out.2.1, HBX.out.2.2⟩
    refine wp_region_held_drew (S := (fun w' => w'.cell? ⟨X, 4, none⟩ = some (.int .i64 x3))) (by kernel_rfl) ?_ (fun hHeld => ?_)
    · exact HBX.out.1.2.2.2.2.1
    refine wpAnyH_take (i := 0) (v := .pointer (some ⟨X, 4, none⟩)) rfl (by kernel_rfl) (by kernel_rfl) (by kernel_rfl) (fun _ _ _ h => h) (Or.inl ⟨by kernel_rfl, fun w hSw => by first | (go_simp; done) | (dsimp only at hSw; go_simp; done) | rfl⟩) (by assumption) ?_
    simp only [Act.put, List.getElem_toArray, List.getElem_cons_succ, List.getElem_cons_zero, List.setIfInBounds_toArray, List.set_cons_succ, List.set_cons_zero]
    refine wpAnyH_take (i := 1) (v := .int .i64 x3) rfl (by kernel_rfl) (by kernel_rfl) (by kernel_rfl) (fun _ _ _ h => h) (Or.inl ⟨by kernel_rfl, fun w hSw => by first | (go_simp; done) | (dsimp only at hSw; go_simp; done) | rfl⟩) (by assumption) ?_
    simp only [Act.put, List.getElem_toArray, List.getElem_cons_succ, List.getElem_cons_zero, List.setIfInBounds_toArray, List.set_cons_succ, List.set_cons_zero]
    refine wpAnyH_take (i := 2) (v := .pointer (some ⟨c, 0, none⟩)) rfl (by kernel_rfl) (by kernel_rfl) (by kernel_rfl) (fun _ _ _ h => h) (Or.inl ⟨by kernel_rfl, fun w hSw => by first | (go_simp; done) | (dsimp only at hSw; go_simp; done) | rfl⟩) (by assumption) ?_
    simp only [Act.put, List.getElem_toArray, List.getElem_cons_succ, List.getElem_cons_zero, List.setIfInBounds_toArray, List.set_cons_succ, List.set_cons_zero]
    refine wpAnyH_ready (rs := [3]) (by kernel_rfl) (by simp) ?_
    refine AllReadyH.cons rfl (fun K hK => ?_) (AllReadyH.nil)
    go_simp
    go_wp2_with (go_at_call 69; (with_reducible refine (below_any CD 3).mono ?_); rintro e w7 ⟨⟨x7, rfl, hx7a, hx7b⟩, C7, M7⟩)
    have hx7c := hx7b (by omega)
    have B7 : Bw w7 X ⟨1 + x1, 5, 1, 1 + x2, x3, 0, 1⟩ := BD.kb (Kb.moved M7) hXc
    have K7 := KD.trans (Kb.moved M7)
    refine hK.out _ _ ?_ (fun hHeld2 => ?_)
    · exact B7.1.2.2.2.2.1
    clear hK K hHeld
    have hHeld := hHeld2
    clear hHeld2
    obtain ⟨d7, hd7⟩ : ∃ d : Int, x3 + x7 = d := ⟨_, rfl⟩
    have qd7a : wrap64 (x3 + x7) = d7 := by rw [hd7]; unfold wrap64; omega
    have qd7b : IntKind.i64.wrap (x3 + x7) = d7 := by rw [hd7, IntKind.wrap_i64]; omega
    clear hd7
    refine wpAnyH_take (i := 4) (v := .int .i64 d7) rfl (by kernel_rfl) (by kernel_rfl) (by kernel_rfl) (fun _ _ _ h => h) (Or.inl ⟨by kernel_rfl, fun w hSw => by first | (go_simp; done) | (dsimp only at hSw; go_simp; done) | rfl⟩) (by assumption) ?_
    simp only [Act.put, List.getElem_toArray, List.getElem_cons_succ, List.getElem_cons_zero, List.setIfInBounds_toArray, List.set_cons_succ, List.set_cons_zero]
    clear qd7a qd7b
    refine wpAnyH_take (i := 5) (v := .pointer (some ⟨X, 5, none⟩)) rfl (by kernel_rfl) (by kernel_rfl) (by kernel_rfl) (fun _ _ _ h => h) (Or.inl ⟨by kernel_rfl, fun w hSw => by first | (go_simp; done) | (dsimp only at hSw; go_simp; done) | rfl⟩) (by assumption) ?_
    simp only [Act.put, List.getElem_toArray, List.getElem_cons_succ, List.getElem_cons_zero, List.setIfInBounds_toArray, List.set_cons_succ, List.set_cons_zero]
    have BP : Hid (Bw _ _ _) := B7.put5 d7
    have CP := C7.set X 5 (.int .i64 d7) hXc hXW
    have KP := K7.set X 5 (.int .i64 d7) hXW
    obtain ⟨⟨z0, z1, z2, z3, z4, z5, z6⟩, -, fz⟩ := B7
    have fz5 := fz 5
    refine wpAnyH_ready (rs := [6]) (by kernel_rfl) (by simp) ?_
    refine AllReadyH.cons rfl (fun K hK => ?_) (AllReadyH.nil)
    go_simp
    refine hK.out _ _ ?_ (fun hHeld2 => ?_)
    · exact BP.out.1.2.2.2.2.1
    clear hK K hHeld hHeld2 z0 z1 z2 z3 z4 z5 z6 fz fz5
    refine wpAnyH_done (by kernel_rfl) ?_ _
    go_wp2
    go_meet
    case rel => exact ⟨_, BP, CP, KP⟩
  case rest =>
    obtain ⟨p, HP, C7, K7⟩ := hcut
    clear HBX C6 K6
    obtain ⟨p0, p1, p2, p3, p4, p5, p6⟩ := HP.out.1
    have C8 := C7.alloc (.cells #[.int .i64 p.tr, .int .i64 p.dy, .int .i64 p.co, .int .i64 p.se, .int .i64 p.ba, .int .i64 p.be, .int .i64 p.od] 77)
    have K8 := K7.alloc (.cells #[.int .i64 p.tr, .int .i64 p.dy, .int .i64 p.co, .int .i64 p.se, .int .i64 p.ba, .int .i64 p.be, .int .i64 p.od] 77)
    have B8 : Bw (wc.alloc (.cells #[.int .i64 p.tr, .int .i64 p.dy, .int .i64 p.co, .int .i64 p.se, .int .i64 p.ba, .int .i64 p.be, .int .i64 p.od] 77)) wc.heap.size p := Bw.new wc p 77
    have P8 : Bw (wc.alloc (.cells #[.int .i64 p.tr, .int .i64 p.dy, .int .i64 p.co, .int .i64 p.se, .int .i64 p.ba, .int .i64 p.be, .int .i64 p.od] 77)) X p := HP.out.on (new_below _ _)
    have hYc : wc.heap.size ≠ c := by have := C7.lt; omega
    have hYW : W1.heap.size ≤ wc.heap.size := C7.below.size
    have hXY : X ≠ wc.heap.size := by have := HP.out.2.1; omega
    go_wp2_with fail
    refine (below_any C8 5).mono ?_
    generalize wc.alloc (.cells #[.int .i64 p.tr, .int .i64 p.dy, .int .i64 p.co, .int .i64 p.se, .int .i64 p.ba, .int .i64 p.be, .int .i64 p.od] 77) = w8 at *
    generalize wc.heap.size = Y at *
    rintro e w9 ⟨⟨x9, rfl, hx9a, hx9b⟩, C9, M9⟩
    have hx9c := hx9b (by omega)
    have K9 := K8.trans (Kb.moved M9)
    have B9 := B8.kb (Kb.moved M9) hYc
    have P9 := P8.kb (Kb.moved M9) hXc
    have B10 := B9.put4 x9
    have C10 := C9.set Y 4 (.int .i64 x9) hYc hYW
    have K10 := K9.set Y 4 (.int .i64 x9) hYW
    have P10 : Bw (w9.setCell ⟨Y, 4, none⟩ (.int .i64 x9)) X p := P9.other hXY
    obtain ⟨⟨b0, b1, b2, b3, b4, b5, b6⟩, -, fb⟩ := B9
    have fb4 := fb 4
    clear p0 p1 p2 p3 p4 p5 p6 HP C7 K7 C8 K8 B8 P8 C9 K9 P9 M9 hx9b fb
    go_wp2
    generalize w9.setCell ⟨Y, 4, none⟩ (.int .i64 x9) = w10 at *
    have HBY : Hid (Bw w10 Y { p with ba := x9 }) := B10
    clear B10 b0 b1 b2 b3 b4 b5 b6 fb4
    go_cut [] from 7 (fun wc => ∃ q : Hl, Hid (Bw wc Y q) ∧ Hid (Bw wc X p) ∧ Is W1 a n cap c wc ∧ Kb c W1 wc)
    case first =>
      have CD : Is W1 a n cap c (World.drew _) := C10.drewN 1
      have BXD : Bw (World.drew _) X p := ⟨P10.1, P10.2.1, P10.2.2⟩
      have KD : Kb c W1 (World.drew _) := K10.drew
      have BD : Bw (World.drew _) Y { p with ba := x9 } := ⟨HBY.out.1, HBY.out.2.1, HBY.out.2.2⟩
      refine wp_region_held_drew (S := (fun w' => w'.cell? ⟨Y, 4, none⟩ = some (.int .i64 x9))) (by kernel_rfl) ?_ (fun hHeld => ?_)
      · exact HBY.out.1.2.2.2.2.1
      refine wpAnyH_take (i := 0) (v := .pointer (some ⟨Y, 4, none⟩)) rfl (by kernel_rfl) (by kernel_rfl) (by kernel_rfl) (fun _ _ _ h => h) (Or.inl ⟨by kernel_rfl, fun w hSw => by first | (go_simp; done) | (dsimp only at hSw; go_simp; done) | rfl⟩) (by assumption) ?_
      simp only [Act.put, List.getElem_toArray, List.getElem_cons_succ, List.getElem_cons_zero, List.setIfInBounds_toArray, List.set_cons_succ, List.set_cons_zero]
      refine wpAnyH_take (i := 1) (v := .int .i64 x9) rfl (by kernel_rfl) (by kernel_rfl) (by kernel_rfl) (fun _ _ _ h => h) (Or.inl ⟨by kernel_rfl, fun w hSw => by first | (go_simp; done) | (dsimp only at hSw; go_simp; done) | rfl⟩) (by assumption) ?_
      simp only [Act.put, List.getElem_toArray, List.getElem_cons_succ, List.getElem_cons_zero, List.setIfInBounds_toArray, List.set_cons_succ, List.set_cons_zero]
      refine wpAnyH_take (i := 2) (v := .pointer (some ⟨c, 0, none⟩)) rfl (by kernel_rfl) (by kernel_rfl) (by kernel_rfl) (fun _ _ _ h => h) (Or.inl ⟨by kernel_rfl, fun w hSw => by first | (go_simp; done) | (dsimp only at hSw; go_simp; done) | rfl⟩) (by assumption) ?_
      simp only [Act.put, List.getElem_toArray, List.getElem_cons_succ, List.getElem_cons_zero, List.setIfInBounds_toArray, List.set_cons_succ, List.set_cons_zero]
      refine wpAnyH_ready (rs := [3]) (by kernel_rfl) (by simp) ?_
      refine AllReadyH.cons rfl (fun K hK => ?_) (AllReadyH.nil)
      go_simp
      go_wp2_with (go_at_call 69; (with_reducible refine (below_any CD 4).mono ?_); rintro e w11 ⟨⟨x11, rfl, hx11a, hx11b⟩, C11, M11⟩)
      have hx11c := hx11b (by omega)
      have B11 : Bw w11 Y { p with ba := x9 } := BD.kb (Kb.moved M11) hYc
      have K11 := KD.trans (Kb.moved M11)
      refine hK.out _ _ ?_ (fun hHeld2 => ?_)
      · exact B11.1.2.2.2.2.1
      clear hK K hHeld
      have hHeld := hHeld2
      clear hHeld2
      obtain ⟨d11, hd11⟩ : ∃ d : Int, x9 + x11 = d := ⟨_, rfl⟩
      have qd11a : wrap64 (x9 + x11) = d11 := by rw [hd11]; unfold wrap64; omega
      have qd11b : IntKind.i64.wrap (x9 + x11) = d11 := by rw [hd11, IntKind.wrap_i64]; omega
      clear hd11
      refine wpAnyH_take (i := 4) (v := .int .i64 d11) rfl (by kernel_rfl) (by kernel_rfl) (by kernel_rfl) (fun _ _ _ h => h) (Or.inl ⟨by kernel_rfl, fun w hSw => by first | (go_simp; done) | (dsimp only at hSw; go_simp; done) | rfl⟩) (by assumption) ?_
      simp only [Act.put, List.getElem_toArray, List.getElem_cons_succ, List.getElem_cons_zero, List.setIfInBounds_toArray, List.set_cons_succ, List.set_cons_zero]
      clear qd11a qd11b
      refine wpAnyH_take (i := 5) (v := .pointer (some ⟨Y, 5, none⟩)) rfl (by kernel_rfl) (by kernel_rfl) (by kernel_rfl) (fun _ _ _ h => h) (Or.inl ⟨by kernel_rfl, fun w hSw => by first | (go_simp; done) | (dsimp only at hSw; go_simp; done) | rfl⟩) (by assumption) ?_
      simp only [Act.put, List.getElem_toArray, List.getElem_cons_succ, List.getElem_cons_zero, List.setIfInBounds_toArray, List.set_cons_succ, List.set_cons_zero]
      have BP : Hid (Bw _ _ _) := B11.put5 d11
      have CP := C11.set Y 5 (.int .i64 d11) hYc hYW
      have KP := K11.set Y 5 (.int .i64 d11) hYW
      obtain ⟨⟨z0, z1, z2, z3, z4, z5, z6⟩, -, fz⟩ := B11
      have fz5 := fz 5
      refine wpAnyH_ready (rs := [6]) (by kernel_rfl) (by simp) ?_
      refine AllReadyH.cons rfl (fun K hK => ?_) (AllReadyH.nil)
      go_simp
      refine hK.out _ _ ?_ (fun hHeld2 => ?_)
      · exact BP.out.1.2.2.2.2.1
      clear hK K hHeld hHeld2 z0 z1 z2 z3 z4 z5 z6 fz fz5
      refine wpAnyH_done (by kernel_rfl) ?_ _
      have PE : Hid (Bw _ X p) := (Bw.other (i := 5) (u := .int .i64 d11) (BXD.kb (Kb.moved M11) hXc) hXY)
      go_wp2
      go_meet
      case rel => exact ⟨_, BP, PE, CP, KP⟩
    case rest =>
      obtain ⟨q, HQ, HP, C11, K11⟩ := hcut
      clear HBY C10 K10 P10
      go_wp2_with fail
      refine (once_any C11 4).mono ?_
      rintro e w12 ⟨⟨tr, rfl⟩, C12, M12⟩
      have K12 := K11.trans (Kb.moved M12)
      have Q12 := HQ.out.kb (Kb.moved M12) hYc
      have P12 := HP.out.kb (Kb.moved M12) hXc
      clear C11 K11 HQ HP M12
      have hR1c : W0.heap.size ≠ c := by omega
      have hR2c : W0.heap.size + 1 ≠ c := by omega
      have hX1 : X ≠ W0.heap.size := by omega
      have hX2 : X ≠ W0.heap.size + 1 := by omega
      have hY1 : Y ≠ W0.heap.size := by omega
      have hY2 : Y ≠ W0.heap.size + 1 := by omega
      have R1 := HR1.out.kb K12 hR1c
      have R2 := HR2.out.kb K12 hR2c
      cases tr
      · have L12 : Below W0.heap.size W0 w12 := N.trans (C12.below.mono N.size)
        clear C12 K12
        go_wp2
        have PD : Bw (World.drew w12) X p := ⟨P12.1, P12.2.1, P12.2.2⟩
        have QD : Bw (World.drew w12) Y q := ⟨Q12.1, Q12.2.1, Q12.2.2⟩
        have RD1 : Bw (World.drew w12) W0.heap.size zH := ⟨R1.1, R1.2.1, R1.2.2⟩
        have RD2 : Bw (World.drew w12) (W0.heap.size + 1) zH := ⟨R2.1, R2.2.1, R2.2.2⟩
        have LD : Below W0.heap.size W0 (World.drew w12) := L12.drew
        refine wp_region_held_drew (S := (fun w' => Bx w' X p ∧ Bx w' Y q)) (by kernel_rfl) ?_ (fun hHeld => ?_)
        · exact ⟨PD.1, QD.1⟩
        refine wpAnyH_take (i := 0) (v := .agg #[.int .i64 p.tr, .int .i64 p.dy, .int .i64 p.co, .int .i64 p.se, .int .i64 p.ba, .int .i64 p.be, .int .i64 p.od]) rfl (by kernel_rfl) (by kernel_rfl) (by kernel_rfl) (fun _ _ _ h => h) (Or.inl ⟨by kernel_rfl, fun w hSw => by first | (go_simp; done) | (dsimp only at hSw; obtain ⟨⟨s0, s1, s2, s3, s4, s5, s6⟩, ⟨t0, t1, t2, t3, t4, t5, t6⟩⟩ := hSw; go_simp; done) | rfl⟩) (by assumption) ?_
        simp only [Act.put, List.getElem_toArray, List.getElem_cons_succ, List.getElem_cons_zero, List.setIfInBounds_toArray, List.set_cons_succ, List.set_cons_zero]
        refine wpAnyH_take (i := 1) (v := .agg #[.int .i64 q.tr, .int .i64 q.dy, .int .i64 q.co, .int .i64 q.se, .int .i64 q.ba, .int .i64 q.be, .int .i64 q.od]) rfl (by kernel_rfl) (by kernel_rfl) (by kernel_rfl) (fun _ _ _ h => h) (Or.inl ⟨by kernel_rfl, fun w hSw => by first | (go_simp; done) | (dsimp only at hSw; obtain ⟨⟨s0, s1, s2, s3, s4, s5, s6⟩, ⟨t0, t1, t2, t3, t4, t5, t6⟩⟩ := hSw; go_simp; done) | rfl⟩) (by assumption) ?_
        simp only [Act.put, List.getElem_toArray, List.getElem_cons_succ, List.getElem_cons_zero, List.setIfInBounds_toArray, List.set_cons_succ, List.set_cons_zero]
        generalize World.drew w12 = wD at *
        have PE : Bw (((((((wD.setCell ⟨W0.heap.size, 0, none⟩ (.int .i64 p.tr)).setCell ⟨W0.heap.size, 1, none⟩ (.int .i64 p.dy)).setCell ⟨W0.heap.size, 2, none⟩ (.int .i64 p.co)).setCell ⟨W0.heap.size, 3, none⟩ (.int .i64 p.se)).setCell ⟨W0.heap.size, 4, none⟩ (.int .i64 p.ba)).setCell ⟨W0.heap.size, 5, none⟩ (.int .i64 p.be)).setCell ⟨W0.heap.size, 6, none⟩ (.int .i64 p.od)) X p := PD.off7 (p := p) hX1
        have QE : Bw (((((((wD.setCell ⟨W0.heap.size, 0, none⟩ (.int .i64 p.tr)).setCell ⟨W0.heap.size, 1, none⟩ (.int .i64 p.dy)).setCell ⟨W0.heap.size, 2, none⟩ (.int .i64 p.co)).setCell ⟨W0.heap.size, 3, none⟩ (.int .i64 p.se)).setCell ⟨W0.heap.size, 4, none⟩ (.int .i64 p.ba)).setCell ⟨W0.heap.size, 5, none⟩ (.int .i64 p.be)).setCell ⟨W0.heap.size, 6, none⟩ (.int .i64 p.od)) Y q := QD.off7 (p := p) hY1
        have RE1 : Bw (((((((wD.setCell ⟨W0.heap.size, 0, none⟩ (.int .i64 p.tr)).setCell ⟨W0.heap.size, 1, none⟩ (.int .i64 p.dy)).setCell ⟨W0.heap.size, 2, none⟩ (.int .i64 p.co)).setCell ⟨W0.heap.size, 3, none⟩ (.int .i64 p.se)).setCell ⟨W0.heap.size, 4, none⟩ (.int .i64 p.ba)).setCell ⟨W0.heap.size, 5, none⟩ (.int .i64 p.be)).setCell ⟨W0.heap.size, 6, none⟩ (.int .i64 p.od)) W0.heap.size p := RD1.set (p := p)
        have RE2 : Bw (((((((wD.setCell ⟨W0.heap.size, 0, none⟩ (.int .i64 p.tr)).setCell ⟨W0.heap.size, 1, none⟩ (.int .i64 p.dy)).setCell ⟨W0.heap.size, 2, none⟩ (.int .i64 p.co)).setCell ⟨W0.heap.size, 3, none⟩ (.int .i64 p.se)).setCell ⟨W0.heap.size, 4, none⟩ (.int .i64 p.ba)).setCell ⟨W0.heap.size, 5, none⟩ (.int .i64 p.be)).setCell ⟨W0.heap.size, 6, none⟩ (.int .i64 p.od)) (W0.heap.size + 1) zH := RD2.off7 (p := p) (show W0.heap.size + 1 ≠ W0.heap.size by omega)
        have LE : Below W0.heap.size W0 (((((((wD.setCell ⟨W0.heap.size, 0, none⟩ (.int .i64 p.tr)).setCell ⟨W0.heap.size, 1, none⟩ (.int .i64 p.dy)).setCell ⟨W0.heap.size, 2, none⟩ (.int .i64 p.co)).setCell ⟨W0.heap.size, 3, none⟩ (.int .i64 p.se)).setCell ⟨W0.heap.size, 4, none⟩ (.int .i64 p.ba)).setCell ⟨W0.heap.size, 5, none⟩ (.int .i64 p.be)).setCell ⟨W0.heap.size, 6, none⟩ (.int .i64 p.od)) := set7_below (p := p) LD (Nat.le_refl W0.heap.size)
        have sE : Bx (((((((wD.setCell ⟨W0.heap.size, 0, none⟩ (.int .i64 p.tr)).setCell ⟨W0.heap.size, 1, none⟩ (.int .i64 p.dy)).setCell ⟨W0.heap.size, 2, none⟩ (.int .i64 p.co)).setCell ⟨W0.heap.size, 3, none⟩ (.int .i64 p.se)).setCell ⟨W0.heap.size, 4, none⟩ (.int .i64 p.ba)).setCell ⟨W0.heap.size, 5, none⟩ (.int .i64 p.be)).setCell ⟨W0.heap.size, 6, none⟩ (.int .i64 p.od)) X p ∧ Bx (((((((wD.setCell ⟨W0.heap.size, 0, none⟩ (.int .i64 p.tr)).setCell ⟨W0.heap.size, 1, none⟩ (.int .i64 p.dy)).setCell ⟨W0.heap.size, 2, none⟩ (.int .i64 p.co)).setCell ⟨W0.heap.size, 3, none⟩ (.int .i64 p.se)).setCell ⟨W0.heap.size, 4, none⟩ (.int .i64 p.ba)).setCell ⟨W0.heap.size, 5, none⟩ (.int .i64 p.be)).setCell ⟨W0.heap.size, 6, none⟩ (.int .i64 p.od)) Y q := ⟨PE.1, QE.1⟩
        obtain ⟨⟨z0, z1, z2, z3, z4, z5, z6⟩, -, fz⟩ := RD1
        simp only [zH] at z0 z1 z2 z3 z4 z5 z6
        have fz0 := fz 0
        have fz1 := fz 1
        have fz2 := fz 2
        have fz3 := fz 3
        have fz4 := fz 4
        have fz5 := fz 5
        have fz6 := fz 6
        refine wpAnyH_ready (rs := [2]) (by kernel_rfl) (by simp) ?_
        refine AllReadyH.cons rfl (fun K hK => ?_) (AllReadyH.nil)
        go_simp
        refine hK.out _ _ ?_ (fun hHeld2 => ?_)
        · with_reducible exact sE
        clear hK K hHeld z0 z1 z2 z3 z4 z5 z6 fz fz0 fz1 fz2 fz3 fz4 fz5 fz6
        have hHeld := hHeld2
        clear hHeld2
        generalize (((((((wD.setCell ⟨W0.heap.size, 0, none⟩ (.int .i64 p.tr)).setCell ⟨W0.heap.size, 1, none⟩ (.int .i64 p.dy)).setCell ⟨W0.heap.size, 2, none⟩ (.int .i64 p.co)).setCell ⟨W0.heap.size, 3, none⟩ (.int .i64 p.se)).setCell ⟨W0.heap.size, 4, none⟩ (.int .i64 p.ba)).setCell ⟨W0.heap.size, 5, none⟩ (.int .i64 p.be)).setCell ⟨W0.heap.size, 6, none⟩ (.int .i64 p.od)) = wE at *
        have PF : Bw (((((((wE.setCell ⟨W0.heap.size + 1, 0, none⟩ (.int .i64 q.tr)).setCell ⟨W0.heap.size + 1, 1, none⟩ (.int .i64 q.dy)).setCell ⟨W0.heap.size + 1, 2, none⟩ (.int .i64 q.co)).setCell ⟨W0.heap.size + 1, 3, none⟩ (.int .i64 q.se)).setCell ⟨W0.heap.size + 1, 4, none⟩ (.int .i64 q.ba)).setCell ⟨W0.heap.size + 1, 5, none⟩ (.int .i64 q.be)).setCell ⟨W0.heap.size + 1, 6, none⟩ (.int .i64 q.od)) X p := PE.off7 (p := q) hX2
        have QF : Bw (((((((wE.setCell ⟨W0.heap.size + 1, 0, none⟩ (.int .i64 q.tr)).setCell ⟨W0.heap.size + 1, 1, none⟩ (.int .i64 q.dy)).setCell ⟨W0.heap.size + 1, 2, none⟩ (.int .i64 q.co)).setCell ⟨W0.heap.size + 1, 3, none⟩ (.int .i64 q.se)).setCell ⟨W0.heap.size + 1, 4, none⟩ (.int .i64 q.ba)).setCell ⟨W0.heap.size + 1, 5, none⟩ (.int .i64 q.be)).setCell ⟨W0.heap.size + 1, 6, none⟩ (.int .i64 q.od)) Y q := QE.off7 (p := q) hY2
        have RF2 : Bw (((((((wE.setCell ⟨W0.heap.size + 1, 0, none⟩ (.int .i64 q.tr)).setCell ⟨W0.heap.size + 1, 1, none⟩ (.int .i64 q.dy)).setCell ⟨W0.heap.size + 1, 2, none⟩ (.int .i64 q.co)).setCell ⟨W0.heap.size + 1, 3, none⟩ (.int .i64 q.se)).setCell ⟨W0.heap.size + 1, 4, none⟩ (.int .i64 q.ba)).setCell ⟨W0.heap.size + 1, 5, none⟩ (.int .i64 q.be)).setCell ⟨W0.heap.size + 1, 6, none⟩ (.int .i64 q.od)) (W0.heap.size + 1) q := RE2.set (p := q)
        have RF1 : Bw (((((((wE.setCell ⟨W0.heap.size + 1, 0, none⟩ (.int .i64 q.tr)).setCell ⟨W0.heap.size + 1, 1, none⟩ (.int .i64 q.dy)).setCell ⟨W0.heap.size + 1, 2, none⟩ (.int .i64 q.co)).setCell ⟨W0.heap.size + 1, 3, none⟩ (.int .i64 q.se)).setCell ⟨W0.heap.size + 1, 4, none⟩ (.int .i64 q.ba)).setCell ⟨W0.heap.size + 1, 5, none⟩ (.int .i64 q.be)).setCell ⟨W0.heap.size + 1, 6, none⟩ (.int .i64 q.od)) W0.heap.size p := RE1.off7 (p := q) (show W0.heap.size ≠ W0.heap.size + 1 by omega)
        have LF : Below W0.heap.size W0 (((((((wE.setCell ⟨W0.heap.size + 1, 0, none⟩ (.int .i64 q.tr)).setCell ⟨W0.heap.size + 1, 1, none⟩ (.int .i64 q.dy)).setCell ⟨W0.heap.size + 1, 2, none⟩ (.int .i64 q.co)).setCell ⟨W0.heap.size + 1, 3, none⟩ (.int .i64 q.se)).setCell ⟨W0.heap.size + 1, 4, none⟩ (.int .i64 q.ba)).setCell ⟨W0.heap.size + 1, 5, none⟩ (.int .i64 q.be)).setCell ⟨W0.heap.size + 1, 6, none⟩ (.int .i64 q.od)) := set7_below (p := q) LE (Nat.le_succ W0.heap.size)
        have sF : Bx (((((((wE.setCell ⟨W0.heap.size + 1, 0, none⟩ (.int .i64 q.tr)).setCell ⟨W0.heap.size + 1, 1, none⟩ (.int .i64 q.dy)).setCell ⟨W0.heap.size + 1, 2, none⟩ (.int .i64 q.co)).setCell ⟨W0.heap.size + 1, 3, none⟩ (.int .i64 q.se)).setCell ⟨W0.heap.size + 1, 4, none⟩ (.int .i64 q.ba)).setCell ⟨W0.heap.size + 1, 5, none⟩ (.int .i64 q.be)).setCell ⟨W0.heap.size + 1, 6, none⟩ (.int .i64 q.od)) X p ∧ Bx (((((((wE.setCell ⟨W0.heap.size + 1, 0, none⟩ (.int .i64 q.tr)).setCell ⟨W0.heap.size + 1, 1, none⟩ (.int .i64 q.dy)).setCell ⟨W0.heap.size + 1, 2, none⟩ (.int .i64 q.co)).setCell ⟨W0.heap.size + 1, 3, none⟩ (.int .i64 q.se)).setCell ⟨W0.heap.size + 1, 4, none⟩ (.int .i64 q.ba)).setCell ⟨W0.heap.size + 1, 5, none⟩ (.int .i64 q.be)).setCell ⟨W0.heap.size + 1, 6, none⟩ (.int .i64 q.od)) Y q := ⟨PF.1, QF.1⟩
        obtain ⟨⟨z0, z1, z2, z3, z4, z5, z6⟩, -, fz⟩ := RE2
        simp only [zH] at z0 z1 z2 z3 z4 z5 z6
        have fz0 := fz 0
        have fz1 := fz 1
        have fz2 := fz 2
        have fz3 := fz 3
        have fz4 := fz 4
        have fz5 := fz 5
        have fz6 := fz 6
        refine wpAnyH_ready (rs := [3]) (by kernel_rfl) (by simp) ?_
        refine AllReadyH.cons rfl (fun K hK => ?_) (AllReadyH.nil)
        go_simp
        refine hK.out _ _ ?_ (fun hHeld2 => ?_)
        · with_reducible exact sF
        clear hK K hHeld z0 z1 z2 z3 z4 z5 z6 fz fz0 fz1 fz2 fz3 fz4 fz5 fz6
        have hHeld := hHeld2
        clear hHeld2
        generalize (((((((wE.setCell ⟨W0.heap.size + 1, 0, none⟩ (.int .i64 q.tr)).setCell ⟨W0.heap.size + 1, 1, none⟩ (.int .i64 q.dy)).setCell ⟨W0.heap.size + 1, 2, none⟩ (.int .i64 q.co)).setCell ⟨W0.heap.size + 1, 3, none⟩ (.int .i64 q.se)).setCell ⟨W0.heap.size + 1, 4, none⟩ (.int .i64 q.ba)).setCell ⟨W0.heap.size + 1, 5, none⟩ (.int .i64 q.be)).setCell ⟨W0.heap.size + 1, 6, none⟩ (.int .i64 q.od)) = wF at *
        refine wpAnyH_done (by kernel_rfl) ?_ _
        go_wp2
        obtain ⟨⟨u0, u1, u2, u3, u4, u5, u6⟩, -, -⟩ := RF1
        obtain ⟨⟨v0, v1, v2, v3, v4, v5, v6⟩, -, -⟩ := RF2
        refine bodyPost_ret (v := .tuple #[lgV p, lgV q]) (by simp [results, Try.results57, go_sem, u0, u1, u2, u3, u4, u5, u6, v0, v1, v2, v3, v4, v5, v6]) rfl ?_
        exact ⟨⟨_, _, rfl⟩, LF⟩
      · have Q13 := Q12.put3 2
        have P13 : Bw (w12.setCell ⟨Y, 3, none⟩ (.int .i64 2)) X p := P12.other hXY
        have R13 : Bw (w12.setCell ⟨Y, 3, none⟩ (.int .i64 2)) W0.heap.size zH := R1.other (Ne.symm hY1)
        have R23 : Bw (w12.setCell ⟨Y, 3, none⟩ (.int .i64 2)) (W0.heap.size + 1) zH := R2.other (Ne.symm hY2)
        have L12 : Below W0.heap.size W0 (w12.setCell ⟨Y, 3, none⟩ (.int .i64 2)) := (N.trans (C12.below.mono N.size)).setCell (p := ⟨Y, 3, none⟩) (show W0.heap.size ≤ Y by have := N.size; omega) _
        obtain ⟨⟨b0, b1, b2, b3, b4, b5, b6⟩, -, fb⟩ := Q12
        have fb3 := fb 3
        clear C12 K12 P12 R1 R2 fb
        go_wp2
        clear b0 b1 b2 b3 b4 b5 b6 fb3
        generalize w12.setCell ⟨Y, 3, none⟩ (.int .i64 2) = w13 at *
        generalize ({ q with se := 2 } : Hl) = q2 at *
        have PD : Bw (World.drew w13) X p := ⟨P13.1, P13.2.1, P13.2.2⟩
        have QD : Bw (World.drew w13) Y q2 := ⟨Q13.1, Q13.2.1, Q13.2.2⟩
        have RD1 : Bw (World.drew w13) W0.heap.size zH := ⟨R13.1, R13.2.1, R13.2.2⟩
        have RD2 : Bw (World.drew w13) (W0.heap.size + 1) zH := ⟨R23.1, R23.2.1, R23.2.2⟩
        have LD : Below W0.heap.size W0 (World.drew w13) := L12.drew
        refine wp_region_held_drew (S := (fun w' => Bx w' X p ∧ Bx w' Y q2)) (by kernel_rfl) ?_ (fun hHeld => ?_)
        · exact ⟨PD.1, QD.1⟩
        refine wpAnyH_take (i := 0) (v := .agg #[.int .i64 p.tr, .int .i64 p.dy, .int .i64 p.co, .int .i64 p.se, .int .i64 p.ba, .int .i64 p.be, .int .i64 p.od]) rfl (by kernel_rfl) (by kernel_rfl) (by kernel_rfl) (fun _ _ _ h => h) (Or.inl ⟨by kernel_rfl, fun w hSw => by first | (go_simp; done) | (dsimp only at hSw; obtain ⟨⟨s0, s1, s2, s3, s4, s5, s6⟩, ⟨t0, t1, t2, t3, t4, t5, t6⟩⟩ := hSw; go_simp; done) | rfl⟩) (by assumption) ?_
        simp only [Act.put, List.getElem_toArray, List.getElem_cons_succ, List.getElem_cons_zero, List.setIfInBounds_toArray, List.set_cons_succ, List.set_cons_zero]
        refine wpAnyH_take (i := 1) (v := .agg #[.int .i64 q2.tr, .int .i64 q2.dy, .int .i64 q2.co, .int .i64 q2.se, .int .i64 q2.ba, .int .i64 q2.be, .int .i64 q2.od]) rfl (by kernel_rfl) (by kernel_rfl) (by kernel_rfl) (fun _ _ _ h => h) (Or.inl ⟨by kernel_rfl, fun w hSw => by first | (go_simp; done) | (dsimp only at hSw; obtain ⟨⟨s0, s1, s2, s3, s4, s5, s6⟩, ⟨t0, t1, t2, t3, t4, t5, t6⟩⟩ := hSw; go_simp; done) | rfl⟩) (by assumption) ?_
        simp only [Act.put, List.getElem_toArray, List.getElem_cons_succ, List.getElem_cons_zero, List.setIfInBounds_toArray, List.set_cons_succ, List.set_cons_zero]
        generalize World.drew w13 = wD at *
        have PE : Bw (((((((wD.setCell ⟨W0.heap.size, 0, none⟩ (.int .i64 p.tr)).setCell ⟨W0.heap.size, 1, none⟩ (.int .i64 p.dy)).setCell ⟨W0.heap.size, 2, none⟩ (.int .i64 p.co)).setCell ⟨W0.heap.size, 3, none⟩ (.int .i64 p.se)).setCell ⟨W0.heap.size, 4, none⟩ (.int .i64 p.ba)).setCell ⟨W0.heap.size, 5, none⟩ (.int .i64 p.be)).setCell ⟨W0.heap.size, 6, none⟩ (.int .i64 p.od)) X p := PD.off7 (p := p) hX1
        have QE : Bw (((((((wD.setCell ⟨W0.heap.size, 0, none⟩ (.int .i64 p.tr)).setCell ⟨W0.heap.size, 1, none⟩ (.int .i64 p.dy)).setCell ⟨W0.heap.size, 2, none⟩ (.int .i64 p.co)).setCell ⟨W0.heap.size, 3, none⟩ (.int .i64 p.se)).setCell ⟨W0.heap.size, 4, none⟩ (.int .i64 p.ba)).setCell ⟨W0.heap.size, 5, none⟩ (.int .i64 p.be)).setCell ⟨W0.heap.size, 6, none⟩ (.int .i64 p.od)) Y q2 := QD.off7 (p := p) hY1
        have RE1 : Bw (((((((wD.setCell ⟨W0.heap.size, 0, none⟩ (.int .i64 p.tr)).setCell ⟨W0.heap.size, 1, none⟩ (.int .i64 p.dy)).setCell ⟨W0.heap.size, 2, none⟩ (.int .i64 p.co)).setCell ⟨W0.heap.size, 3, none⟩ (.int .i64 p.se)).setCell ⟨W0.heap.size, 4, none⟩ (.int .i64 p.ba)).setCell ⟨W0.heap.size, 5, none⟩ (.int .i64 p.be)).setCell ⟨W0.heap.size, 6, none⟩ (.int .i64 p.od)) W0.heap.size p := RD1.set (p := p)
        have RE2 : Bw (((((((wD.setCell ⟨W0.heap.size, 0, none⟩ (.int .i64 p.tr)).setCell ⟨W0.heap.size, 1, none⟩ (.int .i64 p.dy)).setCell ⟨W0.heap.size, 2, none⟩ (.int .i64 p.co)).setCell ⟨W0.heap.size, 3, none⟩ (.int .i64 p.se)).setCell ⟨W0.heap.size, 4, none⟩ (.int .i64 p.ba)).setCell ⟨W0.heap.size, 5, none⟩ (.int .i64 p.be)).setCell ⟨W0.heap.size, 6, none⟩ (.int .i64 p.od)) (W0.heap.size + 1) zH := RD2.off7 (p := p) (show W0.heap.size + 1 ≠ W0.heap.size by omega)
        have LE : Below W0.heap.size W0 (((((((wD.setCell ⟨W0.heap.size, 0, none⟩ (.int .i64 p.tr)).setCell ⟨W0.heap.size, 1, none⟩ (.int .i64 p.dy)).setCell ⟨W0.heap.size, 2, none⟩ (.int .i64 p.co)).setCell ⟨W0.heap.size, 3, none⟩ (.int .i64 p.se)).setCell ⟨W0.heap.size, 4, none⟩ (.int .i64 p.ba)).setCell ⟨W0.heap.size, 5, none⟩ (.int .i64 p.be)).setCell ⟨W0.heap.size, 6, none⟩ (.int .i64 p.od)) := set7_below (p := p) LD (Nat.le_refl W0.heap.size)
        have sE : Bx (((((((wD.setCell ⟨W0.heap.size, 0, none⟩ (.int .i64 p.tr)).setCell ⟨W0.heap.size, 1, none⟩ (.int .i64 p.dy)).setCell ⟨W0.heap.size, 2, none⟩ (.int .i64 p.co)).setCell ⟨W0.heap.size, 3, none⟩ (.int .i64 p.se)).setCell ⟨W0.heap.size, 4, none⟩ (.int .i64 p.ba)).setCell ⟨W0.heap.size, 5, none⟩ (.int .i64 p.be)).setCell ⟨W0.heap.size, 6, none⟩ (.int .i64 p.od)) X p ∧ Bx (((((((wD.setCell ⟨W0.heap.size, 0, none⟩ (.int .i64 p.tr)).setCell ⟨W0.heap.size, 1, none⟩ (.int .i64 p.dy)).setCell ⟨W0.heap.size, 2, none⟩ (.int .i64 p.co)).setCell ⟨W0.heap.size, 3, none⟩ (.int .i64 p.se)).setCell ⟨W0.heap.size, 4, none⟩ (.int .i64 p.ba)).setCell ⟨W0.heap.size, 5, none⟩ (.int .i64 p.be)).setCell ⟨W0.heap.size, 6, none⟩ (.int .i64 p.od)) Y q2 := ⟨PE.1, QE.1⟩
        obtain ⟨⟨z0, z1, z2, z3, z4, z5, z6⟩, -, fz⟩ := RD1
        simp only [zH] at z0 z1 z2 z3 z4 z5 z6
        have fz0 := fz 0
        have fz1 := fz 1
        have fz2 := fz 2
        have fz3 := fz 3
        have fz4 := fz 4
        have fz5 := fz 5
        have fz6 := fz 6
        refine wpAnyH_ready (rs := [2]) (by kernel_rfl) (by simp) ?_
        refine AllReadyH.cons rfl (fun K hK => ?_) (AllReadyH.nil)
        go_simp
        refine hK.out _ _ ?_ (fun hHeld2 => ?_)
        · with_reducible exact sE
        clear hK K hHeld z0 z1 z2 z3 z4 z5 z6 fz fz0 fz1 fz2 fz3 fz4 fz5 fz6
        have hHeld := hHeld2
        clear hHeld2
        generalize (((((((wD.setCell ⟨W0.heap.size, 0, none⟩ (.int .i64 p.tr)).setCell ⟨W0.heap.size, 1, none⟩ (.int .i64 p.dy)).setCell ⟨W0.heap.size, 2, none⟩ (.int .i64 p.co)).setCell ⟨W0.heap.size, 3, none⟩ (.int .i64 p.se)).setCell ⟨W0.heap.size, 4, none⟩ (.int .i64 p.ba)).setCell ⟨W0.heap.size, 5, none⟩ (.int .i64 p.be)).setCell ⟨W0.heap.size, 6, none⟩ (.int .i64 p.od)) = wE at *
        have PF : Bw (((((((wE.setCell ⟨W0.heap.size + 1, 0, none⟩ (.int .i64 q2.tr)).setCell ⟨W0.heap.size + 1, 1, none⟩ (.int .i64 q2.dy)).setCell ⟨W0.heap.size + 1, 2, none⟩ (.int .i64 q2.co)).setCell ⟨W0.heap.size + 1, 3, none⟩ (.int .i64 q2.se)).setCell ⟨W0.heap.size + 1, 4, none⟩ (.int .i64 q2.ba)).setCell ⟨W0.heap.size + 1, 5, none⟩ (.int .i64 q2.be)).setCell ⟨W0.heap.size + 1, 6, none⟩ (.int .i64 q2.od)) X p := PE.off7 (p := q2) hX2
        have QF : Bw (((((((wE.setCell ⟨W0.heap.size + 1, 0, none⟩ (.int .i64 q2.tr)).setCell ⟨W0.heap.size + 1, 1, none⟩ (.int .i64 q2.dy)).setCell ⟨W0.heap.size + 1, 2, none⟩ (.int .i64 q2.co)).setCell ⟨W0.heap.size + 1, 3, none⟩ (.int .i64 q2.se)).setCell ⟨W0.heap.size + 1, 4, none⟩ (.int .i64 q2.ba)).setCell ⟨W0.heap.size + 1, 5, none⟩ (.int .i64 q2.be)).setCell ⟨W0.heap.size + 1, 6, none⟩ (.int .i64 q2.od)) Y q2 := QE.off7 (p := q2) hY2
        have RF2 : Bw (((((((wE.setCell ⟨W0.heap.size + 1, 0, none⟩ (.int .i64 q2.tr)).setCell ⟨W0.heap.size + 1, 1, none⟩ (.int .i64 q2.dy)).setCell ⟨W0.heap.size + 1, 2, none⟩ (.int .i64 q2.co)).setCell ⟨W0.heap.size + 1, 3, none⟩ (.int .i64 q2.se)).setCell ⟨W0.heap.size + 1, 4, none⟩ (.int .i64 q2.ba)).setCell ⟨W0.heap.size + 1, 5, none⟩ (.int .i64 q2.be)).setCell ⟨W0.heap.size + 1, 6, none⟩ (.int .i64 q2.od)) (W0.heap.size + 1) q2 := RE2.set (p := q2)
        have RF1 : Bw (((((((wE.setCell ⟨W0.heap.size + 1, 0, none⟩ (.int .i64 q2.tr)).setCell ⟨W0.heap.size + 1, 1, none⟩ (.int .i64 q2.dy)).setCell ⟨W0.heap.size + 1, 2, none⟩ (.int .i64 q2.co)).setCell ⟨W0.heap.size + 1, 3, none⟩ (.int .i64 q2.se)).setCell ⟨W0.heap.size + 1, 4, none⟩ (.int .i64 q2.ba)).setCell ⟨W0.heap.size + 1, 5, none⟩ (.int .i64 q2.be)).setCell ⟨W0.heap.size + 1, 6, none⟩ (.int .i64 q2.od)) W0.heap.size p := RE1.off7 (p := q2) (show W0.heap.size ≠ W0.heap.size + 1 by omega)
        have LF : Below W0.heap.size W0 (((((((wE.setCell ⟨W0.heap.size + 1, 0, none⟩ (.int .i64 q2.tr)).setCell ⟨W0.heap.size + 1, 1, none⟩ (.int .i64 q2.dy)).setCell ⟨W0.heap.size + 1, 2, none⟩ (.int .i64 q2.co)).setCell ⟨W0.heap.size + 1, 3, none⟩ (.int .i64 q2.se)).setCell ⟨W0.heap.size + 1, 4, none⟩ (.int .i64 q2.ba)).setCell ⟨W0.heap.size + 1, 5, none⟩ (.int .i64 q2.be)).setCell ⟨W0.heap.size + 1, 6, none⟩ (.int .i64 q2.od)) := set7_below (p := q2) LE (Nat.le_succ W0.heap.size)
        have sF : Bx (((((((wE.setCell ⟨W0.heap.size + 1, 0, none⟩ (.int .i64 q2.tr)).setCell ⟨W0.heap.size + 1, 1, none⟩ (.int .i64 q2.dy)).setCell ⟨W0.heap.size + 1, 2, none⟩ (.int .i64 q2.co)).setCell ⟨W0.heap.size + 1, 3, none⟩ (.int .i64 q2.se)).setCell ⟨W0.heap.size + 1, 4, none⟩ (.int .i64 q2.ba)).setCell ⟨W0.heap.size + 1, 5, none⟩ (.int .i64 q2.be)).setCell ⟨W0.heap.size + 1, 6, none⟩ (.int .i64 q2.od)) X p ∧ Bx (((((((wE.setCell ⟨W0.heap.size + 1, 0, none⟩ (.int .i64 q2.tr)).setCell ⟨W0.heap.size + 1, 1, none⟩ (.int .i64 q2.dy)).setCell ⟨W0.heap.size + 1, 2, none⟩ (.int .i64 q2.co)).setCell ⟨W0.heap.size + 1, 3, none⟩ (.int .i64 q2.se)).setCell ⟨W0.heap.size + 1, 4, none⟩ (.int .i64 q2.ba)).setCell ⟨W0.heap.size + 1, 5, none⟩ (.int .i64 q2.be)).setCell ⟨W0.heap.size + 1, 6, none⟩ (.int .i64 q2.od)) Y q2 := ⟨PF.1, QF.1⟩
        obtain ⟨⟨z0, z1, z2, z3, z4, z5, z6⟩, -, fz⟩ := RE2
        simp only [zH] at z0 z1 z2 z3 z4 z5 z6
        have fz0 := fz 0
        have fz1 := fz 1
        have fz2 := fz 2
        have fz3 := fz 3
        have fz4 := fz 4
        have fz5 := fz 5
        have fz6 := fz 6
        refine wpAnyH_ready (rs := [3]) (by kernel_rfl) (by simp) ?_
        refine AllReadyH.cons rfl (fun K hK => ?_) (AllReadyH.nil)
        go_simp
        refine hK.out _ _ ?_ (fun hHeld2 => ?_)
        · with_reducible exact sF
        clear hK K hHeld z0 z1 z2 z3 z4 z5 z6 fz fz0 fz1 fz2 fz3 fz4 fz5 fz6
        have hHeld := hHeld2
        clear hHeld2
        generalize (((((((wE.setCell ⟨W0.heap.size + 1, 0, none⟩ (.int .i64 q2.tr)).setCell ⟨W0.heap.size + 1, 1, none⟩ (.int .i64 q2.dy)).setCell ⟨W0.heap.size + 1, 2, none⟩ (.int .i64 q2.co)).setCell ⟨W0.heap.size + 1, 3, none⟩ (.int .i64 q2.se)).setCell ⟨W0.heap.size + 1, 4, none⟩ (.int .i64 q2.ba)).setCell ⟨W0.heap.size + 1, 5, none⟩ (.int .i64 q2.be)).setCell ⟨W0.heap.size + 1, 6, none⟩ (.int .i64 q2.od)) = wF at *
        refine wpAnyH_done (by kernel_rfl) ?_ _
        go_wp2
        obtain ⟨⟨u0, u1, u2, u3, u4, u5, u6⟩, -, -⟩ := RF1
        obtain ⟨⟨v0, v1, v2, v3, v4, v5, v6⟩, -, -⟩ := RF2
        refine bodyPost_ret (v := .tuple #[lgV p, lgV q2]) (by simp [results, Try.results57, go_sem, u0, u1, u2, u3, u4, u5, u6, v0, v1, v2, v3, v4, v5, v6]) rfl ?_
        exact ⟨⟨_, _, rfl⟩, LF⟩


end Se
end Go.Proofs.Ytikdganlpedbead

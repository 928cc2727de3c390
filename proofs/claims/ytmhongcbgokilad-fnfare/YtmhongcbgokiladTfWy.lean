/- The program's ways as values: where they end, which of two is ahead, one with an edge more. -/
import Derived.Test.YtmhongcbgokiladTfCmp
import Derived.Test.YtmhongcbgokiladTfOk
import Derived.Deep.RegionHeld3
import Derived.Deep.AppendLies
namespace Go.Proofs.Ytmhongcbgokilad
namespace Tf
open Go.ChangeShapes Go.WideShapes Go.ChangeAt Go.RowKit
open Pk (new_below join_below cell_at heap_new frozen_at lt_of kept heap_old Drawn info_of)
set_option linter.unusedSimpArgs false
set_option linter.unusedVariables false
variable {bs : Nat}

/-- A block that is new since bs, and may be written. -/
def Nw (bs : Nat) (w : World) (g : Nat) : Prop := bs ≤ g ∧ g < w.heap.size ∧ ∀ i, w.frozen? ⟨g, i, none⟩ = false

theorem Nw.of_block {w w1 : World} {g : Nat} (h : Nw bs w g) (hs : w.heap.size ≤ w1.heap.size) (hb : w1.heap[g]? = w.heap[g]?) : Nw bs w1 g :=
  ⟨h.1, Nat.lt_of_lt_of_le h.2.1 hs, fun i => (World.frozen?_of_block (a := ⟨g, i, none⟩) hb).trans (h.2.2 i)⟩

/-- A way as a value: its stations lie in a block of their own. -/
def Wv (bs : Nat) (w : World) (v : Value) (o : Wy) : Prop := ∃ g cap, v = .agg #[.int .i64 o.c, .slice (some ⟨g, 0, none⟩) o.s.length cap] ∧ Nw bs w g ∧ 0 < o.s.length ∧ ∀ i (h : i < o.s.length), w.cell? ⟨g, i, none⟩ = some (.int .i64 o.s[i])

theorem Wv.on {w w1 : World} {v : Value} {o : Wy} (h : Wv bs w v o) (L : Below w.heap.size w w1) : Wv bs w1 v o := by
  obtain ⟨g, cap, rfl, hg, hn, hc⟩ := h
  exact ⟨g, cap, rfl, hg.of_block L.size (L.block g hg.2.1), hn, fun i hi => (L.cell (p := ⟨g, i, none⟩) hg.2.1).trans (hc i hi)⟩

theorem Wv.base {b' : Nat} {w : World} {v : Value} {o : Wy} (h : Wv bs w v o) (hb : b' ≤ bs) : Wv b' w v o := by
  obtain ⟨g, cap, rfl, hg, hn, hc⟩ := h
  exact ⟨g, cap, rfl, ⟨Nat.le_trans hb hg.1, hg.2⟩, hn, hc⟩

theorem end_at {o : Wy} {n : Nat} (h : o.s.length = n + 1) : endW o = o.s[n]'(by omega) := by
  unfold endW
  rw [List.getLastD_eq_getLast?, List.getLast?_eq_getElem?]
  have e : o.s[o.s.length - 1]? = some (o.s[n]'(by omega)) := by
    rw [show o.s.length - 1 = n by omega]
    exact List.getElem?_eq_getElem _
  rw [e]
  rfl

theorem end_val (v : Value) (o : Wy) (w : World) (hl : o.s.length ≤ 1048576) (I : Wv bs w v o) :
    Calls Try.prog 106 #[v] w fun e w' => e = .returned (.int .i64 (endW o)) ∧ Below w.heap.size w w' := by
  obtain ⟨g, cap, rfl, hg0, hn, hc⟩ := I
  have hg := hg0.2.1
  clear hg0
  obtain ⟨n, hn1⟩ : ∃ n, o.s.length = n + 1 := ⟨o.s.length - 1, by omega⟩
  have hE := end_at hn1
  have c0 := hc n (by omega)
  rw [← hE] at c0
  have N := new_below w (.cells #[.int .i64 o.c, .slice (some ⟨g, 0, none⟩) o.s.length cap] 103)
  have hx : (o.s.length : Int) - 1 = (n : Int) := by omega
  have h1 : n < o.s.length := by omega
  have hne : g ≠ w.heap.size := by omega
  clear hE hc hn1 hn
  generalize endW o = y at *
  generalize o.s.length = m at *
  go_enter Try.func106, Try.ntmps106
  go_wp2
  go_ret
  exact ⟨rfl, N⟩

theorem Wv.ints {w : World} {o : Wy} {g cap : Nat} (hg : g < w.heap.size) (hc : ∀ i (h : i < o.s.length), w.cell? ⟨g, i, none⟩ = some (.int .i64 o.s[i])) : Ints w (some ⟨g, 0, none⟩) o.s :=
  Or.inr ⟨g, 0, rfl, hg, fun i hi => by rw [Nat.zero_add]; exact hc i hi⟩

set_option maxHeartbeats 2000000 in
set_option maxRecDepth 100000 in
theorem ahead_val (u v : Value) (x y : Wy) (w : World) (hx : x.s.length ≤ 1048576) (hy : y.s.length ≤ 1048576) (I : Wv bs w u x) (J : Wv bs w v y) :
    Calls Try.prog 110 #[u, v] w fun e w' => e = .returned (.bool (ahead x y)) ∧ Below w.heap.size w w' := by
  obtain ⟨gx, cx, rfl, hgx0, hnx, hcx⟩ := I
  obtain ⟨gy, cy, rfl, hgy0, hny, hcy⟩ := J
  have hgx := hgx0.2.1
  have hgy := hgy0.2.1
  clear hgx0 hgy0
  have HA : Hid (_) := ahead_or x y
  have N1 := new_below w (.cells #[.int .i64 x.c, .slice (some ⟨gx, 0, none⟩) x.s.length cx] 103)
  have m1 := heap_new w (.cells #[.int .i64 x.c, .slice (some ⟨gx, 0, none⟩) x.s.length cx] 103)
  have e1 : (w.alloc (.cells #[.int .i64 x.c, .slice (some ⟨gx, 0, none⟩) x.s.length cx] 103)).heap.size = w.heap.size + 1 := Array.size_push ..
  have N2 := new_below (w.alloc (.cells #[.int .i64 x.c, .slice (some ⟨gx, 0, none⟩) x.s.length cx] 103)) (.cells #[.int .i64 y.c, .slice (some ⟨gy, 0, none⟩) y.s.length cy] 103)
  have m2 := heap_new (w.alloc (.cells #[.int .i64 x.c, .slice (some ⟨gx, 0, none⟩) x.s.length cx] 103)) (.cells #[.int .i64 y.c, .slice (some ⟨gy, 0, none⟩) y.s.length cy] 103)
  have m3 := kept N2 (lt_of m1) m1
  have N := join_below N1 N2
  rw [e1] at m2
  generalize hW : (w.alloc (.cells #[.int .i64 x.c, .slice (some ⟨gx, 0, none⟩) x.s.length cx] 103)).alloc (.cells #[.int .i64 y.c, .slice (some ⟨gy, 0, none⟩) y.s.length cy] 103) = W at *
  have a0 : W.cell? ⟨w.heap.size, 0, none⟩ = some (.int .i64 x.c) := cell_at m3 0
  have a1 : W.cell? ⟨w.heap.size, 1, none⟩ = some (.slice (some ⟨gx, 0, none⟩) x.s.length cx) := cell_at m3 1
  have b0 : W.cell? ⟨w.heap.size + 1, 0, none⟩ = some (.int .i64 y.c) := cell_at m2 0
  have b1 : W.cell? ⟨w.heap.size + 1, 1, none⟩ = some (.slice (some ⟨gy, 0, none⟩) y.s.length cy) := cell_at m2 1
  have H1 : Hid (∀ w, _) := fun w => cmp_val x.c y.c w
  have H2 : Hid (∀ w, _) := fun w => cmp_val (x.s.length : Int) (y.s.length : Int) w
  have H3 : Hid (∀ _ : Unit, _) := fun _ => compare_val (some ⟨gx, 0, none⟩) (some ⟨gy, 0, none⟩) x.s y.s cx cy W.drew hx hy (Wv.ints (cap := 0) (Nat.lt_of_lt_of_le hgx N.size) fun i hi => (N.cell (p := ⟨gx, i, none⟩) hgx).trans (hcx i hi)) (Wv.ints (cap := 0) (Nat.lt_of_lt_of_le hgy N.size) fun i hi => (N.cell (p := ⟨gy, i, none⟩) hgy).trans (hcy i hi))
  generalize hL : [cmpV x.c y.c, cmpV (x.s.length : Int) (y.s.length : Int), lexV x.s y.s] = l at HA
  have m4 := heap_new W.drew (.cells #[.int .i64 (cmpV x.c y.c), .int .i64 (cmpV (x.s.length : Int) (y.s.length : Int)), .int .i64 (lexV x.s y.s)] 3)
  have N4 := new_below W.drew (.cells #[.int .i64 (cmpV x.c y.c), .int .i64 (cmpV (x.s.length : Int) (y.s.length : Int)), .int .i64 (lexV x.s y.s)] 3)
  have H4 : Hid (∀ _ : Unit, _) := fun _ => or_val (some ⟨W.heap.size, 0, none⟩) l 3 (W.drew.alloc (.cells #[.int .i64 (cmpV x.c y.c), .int .i64 (cmpV (x.s.length : Int) (y.s.length : Int)), .int .i64 (lexV x.s y.s)] 3)) (by rw [← hL]; simp) (by
    rw [← hL]
    refine Or.inr ⟨W.heap.size, 0, rfl, lt_of m4, fun i hi => ?_⟩
    have h3 : i = 0 ∨ i = 1 ∨ i = 2 := by simp at hi; omega
    rcases h3 with rfl | rfl | rfl <;> exact cell_at m4 _)
  have h3 : l.length = 3 := by rw [← hL]; rfl
  rw [h3] at H4
  clear m1 m2 m3 m4 N1 N2 e1 hcx hcy hL h3 hx hy hnx hny hgx hgy
  generalize x.c = ax at *
  generalize y.c = ay at *
  generalize x.s.length = nx at *
  generalize y.s.length = ny at *
  generalize cmpV ax ay = z1 at *
  generalize cmpV (nx : Int) (ny : Int) = z2 at *
  generalize lexV x.s y.s = z3 at *
  generalize orV l = z4 at *
  obtain ⟨V, hV⟩ : ∃ V, decide (z4 < 0) = V := ⟨_, rfl⟩
  rw [hV] at HA
  go_enter Try.func110, Try.ntmps110
  go_wp2
  refine wp_region_held_drew (S := (fun w' => w'.cell? ⟨w.heap.size, 0, none⟩ = some (.int .i64 ax) ∧ w'.cell? ⟨w.heap.size, 1, none⟩ = some (.slice (some ⟨gx, 0, none⟩) nx cx) ∧ w'.cell? ⟨w.heap.size + 1, 0, none⟩ = some (.int .i64 ay) ∧ w'.cell? ⟨w.heap.size + 1, 1, none⟩ = some (.slice (some ⟨gy, 0, none⟩) ny cy))) (by kernel_rfl) ?_ (fun hHeld => ?_)
  · exact ⟨a0, a1, b0, b1⟩
  refine wpAnyH_take (i := 0) (v := .pointer (some ⟨w.heap.size, 0, none⟩)) rfl (by kernel_rfl) (by kernel_rfl) (by kernel_rfl) (fun _ _ _ h => h) (Or.inl ⟨by kernel_rfl, fun w hSw => by first | (go_simp; done) | (dsimp only at hSw; obtain ⟨hS0, hS1, hS2, hS3⟩ := hSw; go_simp; done) | rfl⟩) (by assumption) ?_
  simp only [Act.put, List.getElem_toArray, List.getElem_cons_succ, List.getElem_cons_zero, List.setIfInBounds_toArray, List.set_cons_succ, List.set_cons_zero]
  refine wpAnyH_take (i := 1) (v := .int .i64 ax) rfl (by kernel_rfl) (by kernel_rfl) (by kernel_rfl) (fun _ _ _ h => h) (Or.inl ⟨by kernel_rfl, fun w hSw => by first | (go_simp; done) | (dsimp only at hSw; obtain ⟨hS0, hS1, hS2, hS3⟩ := hSw; go_simp; done) | rfl⟩) (by assumption) ?_
  simp only [Act.put, List.getElem_toArray, List.getElem_cons_succ, List.getElem_cons_zero, List.setIfInBounds_toArray, List.set_cons_succ, List.set_cons_zero]
  refine wpAnyH_take (i := 2) (v := .pointer (some ⟨w.heap.size + 1, 0, none⟩)) rfl (by kernel_rfl) (by kernel_rfl) (by kernel_rfl) (fun _ _ _ h => h) (Or.inl ⟨by kernel_rfl, fun w hSw => by first | (go_simp; done) | (dsimp only at hSw; obtain ⟨hS0, hS1, hS2, hS3⟩ := hSw; go_simp; done) | rfl⟩) (by assumption) ?_
  simp only [Act.put, List.getElem_toArray, List.getElem_cons_succ, List.getElem_cons_zero, List.setIfInBounds_toArray, List.set_cons_succ, List.set_cons_zero]
  refine wpAnyH_take (i := 3) (v := .int .i64 ay) rfl (by kernel_rfl) (by kernel_rfl) (by kernel_rfl) (fun _ _ _ h => h) (Or.inl ⟨by kernel_rfl, fun w hSw => by first | (go_simp; done) | (dsimp only at hSw; obtain ⟨hS0, hS1, hS2, hS3⟩ := hSw; go_simp; done) | rfl⟩) (by assumption) ?_
  simp only [Act.put, List.getElem_toArray, List.getElem_cons_succ, List.getElem_cons_zero, List.setIfInBounds_toArray, List.set_cons_succ, List.set_cons_zero]
  refine wpAnyH_take (i := 5) (v := .pointer (some ⟨w.heap.size, 1, none⟩)) rfl (by kernel_rfl) (by kernel_rfl) (by kernel_rfl) (fun _ _ _ h => h) (Or.inl ⟨by kernel_rfl, fun w hSw => by first | (go_simp; done) | (dsimp only at hSw; obtain ⟨hS0, hS1, hS2, hS3⟩ := hSw; go_simp; done) | rfl⟩) (by assumption) ?_
  simp only [Act.put, List.getElem_toArray, List.getElem_cons_succ, List.getElem_cons_zero, List.setIfInBounds_toArray, List.set_cons_succ, List.set_cons_zero]
  refine wpAnyH_take (i := 6) (v := .slice (some ⟨gx, 0, none⟩) nx cx) rfl (by kernel_rfl) (by kernel_rfl) (by kernel_rfl) (fun _ _ _ h => h) (Or.inl ⟨by kernel_rfl, fun w hSw => by first | (go_simp; done) | (dsimp only at hSw; obtain ⟨hS0, hS1, hS2, hS3⟩ := hSw; go_simp; done) | rfl⟩) (by assumption) ?_
  simp only [Act.put, List.getElem_toArray, List.getElem_cons_succ, List.getElem_cons_zero, List.setIfInBounds_toArray, List.set_cons_succ, List.set_cons_zero]
  refine wpAnyH_take (i := 7) (v := .int .i64 nx) rfl (by kernel_rfl) (by kernel_rfl) (by kernel_rfl) (fun _ _ _ h => h) (Or.inl ⟨by kernel_rfl, fun w hSw => by first | (go_simp; done) | (dsimp only at hSw; obtain ⟨hS0, hS1, hS2, hS3⟩ := hSw; go_simp; done) | rfl⟩) (by assumption) ?_
  simp only [Act.put, List.getElem_toArray, List.getElem_cons_succ, List.getElem_cons_zero, List.setIfInBounds_toArray, List.set_cons_succ, List.set_cons_zero]
  refine wpAnyH_take (i := 8) (v := .pointer (some ⟨w.heap.size + 1, 1, none⟩)) rfl (by kernel_rfl) (by kernel_rfl) (by kernel_rfl) (fun _ _ _ h => h) (Or.inl ⟨by kernel_rfl, fun w hSw => by first | (go_simp; done) | (dsimp only at hSw; obtain ⟨hS0, hS1, hS2, hS3⟩ := hSw; go_simp; done) | rfl⟩) (by assumption) ?_
  simp only [Act.put, List.getElem_toArray, List.getElem_cons_succ, List.getElem_cons_zero, List.setIfInBounds_toArray, List.set_cons_succ, List.set_cons_zero]
  refine wpAnyH_take (i := 9) (v := .slice (some ⟨gy, 0, none⟩) ny cy) rfl (by kernel_rfl) (by kernel_rfl) (by kernel_rfl) (fun _ _ _ h => h) (Or.inl ⟨by kernel_rfl, fun w hSw => by first | (go_simp; done) | (dsimp only at hSw; obtain ⟨hS0, hS1, hS2, hS3⟩ := hSw; go_simp; done) | rfl⟩) (by assumption) ?_
  simp only [Act.put, List.getElem_toArray, List.getElem_cons_succ, List.getElem_cons_zero, List.setIfInBounds_toArray, List.set_cons_succ, List.set_cons_zero]
  refine wpAnyH_take (i := 10) (v := .int .i64 ny) rfl (by kernel_rfl) (by kernel_rfl) (by kernel_rfl) (fun _ _ _ h => h) (Or.inl ⟨by kernel_rfl, fun w hSw => by first | (go_simp; done) | (dsimp only at hSw; obtain ⟨hS0, hS1, hS2, hS3⟩ := hSw; go_simp; done) | rfl⟩) (by assumption) ?_
  simp only [Act.put, List.getElem_toArray, List.getElem_cons_succ, List.getElem_cons_zero, List.setIfInBounds_toArray, List.set_cons_succ, List.set_cons_zero]
  refine wpAnyH_take (i := 12) (v := .pointer (some ⟨w.heap.size, 1, none⟩)) rfl (by kernel_rfl) (by kernel_rfl) (by kernel_rfl) (fun _ _ _ h => h) (Or.inl ⟨by kernel_rfl, fun w hSw => by first | (go_simp; done) | (dsimp only at hSw; obtain ⟨hS0, hS1, hS2, hS3⟩ := hSw; go_simp; done) | rfl⟩) (by assumption) ?_
  simp only [Act.put, List.getElem_toArray, List.getElem_cons_succ, List.getElem_cons_zero, List.setIfInBounds_toArray, List.set_cons_succ, List.set_cons_zero]
  refine wpAnyH_take (i := 13) (v := .slice (some ⟨gx, 0, none⟩) nx cx) rfl (by kernel_rfl) (by kernel_rfl) (by kernel_rfl) (fun _ _ _ h => h) (Or.inl ⟨by kernel_rfl, fun w hSw => by first | (go_simp; done) | (dsimp only at hSw; obtain ⟨hS0, hS1, hS2, hS3⟩ := hSw; go_simp; done) | rfl⟩) (by assumption) ?_
  simp only [Act.put, List.getElem_toArray, List.getElem_cons_succ, List.getElem_cons_zero, List.setIfInBounds_toArray, List.set_cons_succ, List.set_cons_zero]
  refine wpAnyH_take (i := 14) (v := .pointer (some ⟨w.heap.size + 1, 1, none⟩)) rfl (by kernel_rfl) (by kernel_rfl) (by kernel_rfl) (fun _ _ _ h => h) (Or.inl ⟨by kernel_rfl, fun w hSw => by first | (go_simp; done) | (dsimp only at hSw; obtain ⟨hS0, hS1, hS2, hS3⟩ := hSw; go_simp; done) | rfl⟩) (by assumption) ?_
  simp only [Act.put, List.getElem_toArray, List.getElem_cons_succ, List.getElem_cons_zero, List.setIfInBounds_toArray, List.set_cons_succ, List.set_cons_zero]
  refine wpAnyH_take (i := 15) (v := .slice (some ⟨gy, 0, none⟩) ny cy) rfl (by kernel_rfl) (by kernel_rfl) (by kernel_rfl) (fun _ _ _ h => h) (Or.inl ⟨by kernel_rfl, fun w hSw => by first | (go_simp; done) | (dsimp only at hSw; obtain ⟨hS0, hS1, hS2, hS3⟩ := hSw; go_simp; done) | rfl⟩) (by assumption) ?_
  simp only [Act.put, List.getElem_toArray, List.getElem_cons_succ, List.getElem_cons_zero, List.setIfInBounds_toArray, List.set_cons_succ, List.set_cons_zero]
  refine wpAnyH_ready (rs := [4]) (by kernel_rfl) (by simp) ?_
  refine AllReadyH.cons rfl (fun K hK => ?_) AllReadyH.nil
  go_simp
  go_wp2_with (go_at_call 109; (with_reducible refine (H1.out _).mono ?_); rintro e w1 ⟨rfl, rfl⟩)
  refine hK.out _ _ ?_ (fun hHeld2 => ?_)
  · first | exact hHeld | go_keep
  clear hK K hHeld
  have hHeld := hHeld2
  clear hHeld2
  refine wpAnyH_ready (rs := [11]) (by kernel_rfl) (by simp) ?_
  refine AllReadyH.cons rfl (fun K hK => ?_) AllReadyH.nil
  go_simp
  go_wp2_with (go_at_call 109; (with_reducible refine (H2.out _).mono ?_); rintro e w1 ⟨rfl, rfl⟩)
  refine hK.out _ _ ?_ (fun hHeld2 => ?_)
  · first | exact hHeld | go_keep
  clear hK K hHeld
  have hHeld := hHeld2
  clear hHeld2
  refine wpAnyH_ready (rs := [16]) (by kernel_rfl) (by simp) ?_
  refine AllReadyH.cons rfl (fun K hK => ?_) AllReadyH.nil
  go_simp
  go_wp2_with (go_at_call 114; refine (H3.out ()).mono ?_; rintro e w1 ⟨rfl, rfl⟩)
  refine hK.out _ _ ?_ (fun hHeld2 => ?_)
  · first | exact hHeld | go_keep
  clear hK K hHeld
  have hHeld := hHeld2
  clear hHeld2
  refine wpAnyH_ready (rs := [17]) (by kernel_rfl) (by simp) ?_
  refine AllReadyH.cons rfl (fun K hK => ?_) AllReadyH.nil
  go_simp
  refine hK.out _ _ ?_ (fun hHeld2 => ?_)
  · first | exact hHeld | go_keep
  clear hK K hHeld
  have hHeld := hHeld2
  clear hHeld2
  refine wpAnyH_ready (rs := [18]) (by kernel_rfl) (by simp) ?_
  refine AllReadyH.cons rfl (fun K hK => ?_) AllReadyH.nil
  go_simp
  go_wp2_with (go_at_call 108; refine (H4.out ()).mono ?_; rintro e w1 ⟨rfl, rfl⟩)
  refine hK.out _ _ ?_ (fun hHeld2 => ?_)
  · first | exact hHeld | go_keep
  clear hK K hHeld
  have hHeld := hHeld2
  clear hHeld2
  refine wpAnyH_take (i := 19) (v := .bool V) rfl (by kernel_rfl) (by kernel_rfl) (by kernel_rfl) (fun _ _ _ h => h) (Or.inl ⟨by kernel_rfl, fun w hSw => by first | (go_simp; done) | (dsimp only at hSw; obtain ⟨hS0, hS1, hS2, hS3⟩ := hSw; go_simp; done) | rfl⟩) (by assumption) ?_
  simp only [Act.put, List.getElem_toArray, List.getElem_cons_succ, List.getElem_cons_zero, List.setIfInBounds_toArray, List.set_cons_succ, List.set_cons_zero]
  refine wpAnyH_ready (rs := [20]) (by kernel_rfl) (by simp) ?_
  refine AllReadyH.cons rfl (fun K hK => ?_) AllReadyH.nil
  go_simp
  refine hK.out _ _ ?_ (fun hHeld2 => ?_)
  · first | exact hHeld | go_keep
  clear hK K hHeld
  have hHeld := hHeld2
  clear hHeld2
  refine wpAnyH_done (by kernel_rfl) ?_ _
  go_wp2
  go_ret
  exact ⟨by rw [← HA.out] <;> rfl, N.trans (((Below.refl _ _).drew).trans (N4.mono N.size))⟩

end Tf
end Go.Proofs.Ytmhongcbgokilad

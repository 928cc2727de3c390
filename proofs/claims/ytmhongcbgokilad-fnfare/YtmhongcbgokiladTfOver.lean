/- The program's way with an edge more. -/
import Derived.Test.YtmhongcbgokiladTfWy
namespace Go.Proofs.Ytmhongcbgokilad
namespace Tf
open Go.ChangeShapes Go.WideShapes Go.ChangeAt Go.RowKit
open Pk (new_below join_below cell_at heap_new frozen_at lt_of kept heap_old Drawn info_of)
set_option linter.unusedSimpArgs false
set_option linter.unusedVariables false
variable {bs : Nat}

theorem wp_make {P : Program} {w : World} {o : Oper} {a : Act} {K : Act → World → Prop} {Q : Exit → Act → World → Prop} (l c : Operand) (t : TypeId) (ho : o.op = .makeSlice t l c)
    (base : Nat) (e : TypeId) (i : TypeInfo) (z : Value) (size : Nat) (ht : P.underlying t = some (.slice e)) (hi : P.info? e = some i) (hz : i.zero = some z) (hsize : i.size = size)
    (kl kc : IntKind) (C : Int) (n : Nat) (hl : a.eval l = .int kl 0) (hc : a.eval c = .int kc C) (hC : C = (n : Int)) (hb : i.bytes * n ≤ 281474976710656) (h63 : n ≤ maxLen) (hbase : base ≤ w.heap.size)
    (h : ∀ w', w'.ownsRow base e size (.slice (some ⟨w.heap.size, 0, none⟩) 0 n) 0 [] → w.grownBy w' none → K (a.put o.dst (.slice (some ⟨w.heap.size, 0, none⟩) 0 n)) w') : o.wp P a w K Q := by
  obtain ⟨w', hrun, h1, h2⟩ := run_make_own (P := P) w base t e i z size ht hi hz hsize kl kc n hb h63 hbase
  subst hC
  unfold Oper.wp
  simp [execOp, ho, hl, hc, hrun, Result.andThen]
  exact h w' h1 h2

/-- The cells of numbers. -/
def zc (l : List Int) : List Value := l.map fun z => .int .i64 z

theorem zc_length (l : List Int) : (zc l).length = l.length := by simp [zc]
theorem zc_one (l : List Int) : ∀ u ∈ zc l, u.oneCell' = true := by
  intro u hu
  obtain ⟨z, -, rfl⟩ := List.mem_map.1 hu
  rfl
theorem add0 (g j : Nat) : Addr.add ⟨g, 0, none⟩ j = ⟨g, j, none⟩ := by simp [Addr.add]; exact Eq.symm
theorem zc_at {w : World} {g : Nat} {l : List Int} (h : ∀ i (h : i < l.length), w.cell? ⟨g, i, none⟩ = some (.int .i64 l[i])) : ∀ j u, (zc l)[j]? = some u → w.cell? (Addr.add ⟨g, 0, none⟩ j) = some u := by
  intro j u hu
  simp only [zc, List.getElem?_map, Option.map_eq_some_iff] at hu
  obtain ⟨z, hz, rfl⟩ := hu
  obtain ⟨hj, rfl⟩ := List.getElem?_eq_some_iff.1 hz
  rw [add0]
  exact h j hj
theorem one_at {w : World} {g : Nat} {v : Value} {t : TypeId} (m : w.heap[g]? = some (.cells #[v] t (0, 0))) : ∀ j u, [v][j]? = some u → w.cell? (Addr.add ⟨g, 0, none⟩ j) = some u := by
  intro j u hu
  obtain ⟨hj, rfl⟩ := List.getElem?_eq_some_iff.1 hu
  have : j = 0 := by simp at hj; omega
  subst this
  rw [add0]
  exact cell_at m 0

theorem own_wv {w : World} {base g cap : Nat} {o : Wy} {n : Nat} (h : w.ownsRow base 3 1 (.slice (some ⟨g, 0, none⟩) n cap) n (zc o.s)) (hn : o.s.length = n) (h0 : 0 < n) : Wv base w (.agg #[.int .i64 o.c, .slice (some ⟨g, 0, none⟩) n cap]) o := by
  subst hn
  have hfz : ∀ i, w.frozen? ⟨g, i, none⟩ = false := by
    obtain ⟨-, h2⟩ := h
    rcases h2 with ⟨hv, -⟩ | ⟨g', cap', cur, hv, -, hh, -⟩
    · cases hv
    · simp only [Value.slice.injEq, Option.some.injEq, Addr.mk.injEq] at hv
      rw [hv.1.1]
      exact frozen_at hh
  obtain ⟨g', cap', hv, hbg, hlt⟩ := h.form h0
  simp only [Value.slice.injEq, Option.some.injEq, Addr.mk.injEq] at hv
  obtain ⟨⟨rfl, -⟩, -, rfl⟩ := hv
  refine ⟨g, cap, rfl, ⟨hbg, hlt, hfz⟩, h0, fun i hi => ?_⟩
  obtain ⟨g2, cap2, e2, -, -, u, hu, hc⟩ := Pk.own_at h i hi
  simp only [Value.slice.injEq, Option.some.injEq, Addr.mk.injEq] at e2
  rw [e2.1.1, hc, ← hu]
  simp [zc, List.getElem?_eq_getElem hi]

set_option maxHeartbeats 4000000 in
set_option maxRecDepth 100000 in
theorem over_val (v : Value) (o : Wy) (p : Ed) (x : Int) (w : World) (hl : o.s.length ≤ 1048576) (hc0 : 0 ≤ o.c) (hc1 : o.c ≤ 1000000000000) (hp0 : 0 ≤ p.co) (hp1 : p.co ≤ 1000000) (hbs : bs ≤ w.heap.size) (I : Wv bs w v o) :
    Calls Try.prog 112 #[v, lgV p, .int .i64 x] w fun e w' => ∃ v', e = .returned v' ∧ Below w.heap.size w w' ∧ Wv bs w' v' (ovr o p.co x) := by
  obtain ⟨i0, hi, hz0, hz1, hz2⟩ := info_of Pk.info_int
  obtain ⟨g, cap, rfl, hg0, hnp, hcell⟩ := I
  have hg := hg0.2.1
  clear hg0
  obtain ⟨ea, eb, co⟩ := p
  dsimp only at hp0 hp1
  have N1 := new_below w (.cells #[.int .i64 o.c, .slice (some ⟨g, 0, none⟩) o.s.length cap] 103)
  have m1 := heap_new w (.cells #[.int .i64 o.c, .slice (some ⟨g, 0, none⟩) o.s.length cap] 103)
  have e1 : (w.alloc (.cells #[.int .i64 o.c, .slice (some ⟨g, 0, none⟩) o.s.length cap] 103)).heap.size = w.heap.size + 1 := Array.size_push ..
  generalize hW1 : w.alloc (.cells #[.int .i64 o.c, .slice (some ⟨g, 0, none⟩) o.s.length cap] 103) = W1 at *
  have N2 := new_below W1 (edO ⟨ea, eb, co⟩ 115)
  have m2 := heap_new W1 (edO ⟨ea, eb, co⟩ 115)
  have e2 : (W1.alloc (edO ⟨ea, eb, co⟩ 115)).heap.size = W1.heap.size + 1 := Array.size_push ..
  generalize hW2 : W1.alloc (edO ⟨ea, eb, co⟩ 115) = W2 at *
  have N3 := new_below W2 (.cells #[.int .i64 0, .slice none 0 0] 103)
  have m3 := heap_new W2 (.cells #[.int .i64 0, .slice none 0 0] 103)
  generalize hW3 : W2.alloc (.cells #[.int .i64 0, .slice none 0 0] 103) = W at *
  have m2' := kept N3 (lt_of m2) m2
  have m1' := kept N3 (Nat.lt_of_lt_of_le (lt_of m1) N2.size) (kept N2 (lt_of m1) m1)
  rw [e2, e1] at m3
  rw [e1] at m2'
  have N := join_below (join_below N1 N2) N3
  have a0 : W.cell? ⟨w.heap.size, 0, none⟩ = some (.int .i64 o.c) := cell_at m1' 0
  have a1 : W.cell? ⟨w.heap.size, 1, none⟩ = some (.slice (some ⟨g, 0, none⟩) o.s.length cap) := cell_at m1' 1
  have b2 : W.cell? ⟨w.heap.size + 1, 2, none⟩ = some (.int .i64 co) := cell_at m2' 2
  have l0 : w.heap.size < W.heap.size := lt_of m1'
  have l1 : w.heap.size + 1 < W.heap.size := lt_of m2'
  have l2 : w.heap.size + 1 + 1 < W.heap.size := lt_of m3
  have hbW : w.heap.size ≤ W.heap.size := Nat.le_of_lt l0
  have HC1 : Hid (∀ w', Below W.heap.size W w' → ∀ i (h : i < o.s.length), w'.cell? ⟨g, i, none⟩ = some (.int .i64 o.s[i])) := fun w' L i hi => (L.cell (p := ⟨g, i, none⟩) (Nat.lt_of_lt_of_le hg N.size)).trans ((N.cell (p := ⟨g, i, none⟩) hg).trans (hcell i hi))
  have HM3 : Hid (_) := m3
  clear m1 m2 m1' m2' N1 N2 N3 e1 e2 hcell m3
  rw [← hW2, ← hW1] at hW3
  clear hW1 hW2
  obtain ⟨n, hn⟩ : ∃ n, o.s.length = n := ⟨_, rfl⟩
  obtain ⟨c, hc⟩ : ∃ c, o.c = c := ⟨_, rfl⟩
  have HN : Hid (o.s.length = n) := hn
  have HO : Hid (o.c = c) := hc
  rw [hc] at hc0 hc1 a0 hW3
  rw [hn] at hl hnp a1 hW3
  rw [hc, hn]
  clear hn hc
  obtain ⟨q, hq⟩ : ∃ q, n + 1 = q := ⟨_, rfl⟩
  have i4 : (n : Int) + 1 = (q : Int) := by omega
  have i5 : IntKind.i64.wrap (q : Int) = (q : Int) := by rw [IntKind.wrap_i64]; omega
  obtain ⟨cc, hcc⟩ : ∃ cc, c + co = cc := ⟨_, rfl⟩
  have i6 : IntKind.i64.wrap cc = cc := by rw [IntKind.wrap_i64]; omega
  have hqb : q ≤ 1048577 := by omega
  have HQ : Hid (n + 1 = q) := hq
  clear hq
  go_enter Try.func112, Try.ntmps112
  go_wp2
  refine wp_region_held_drew (S := (fun w' => w'.cell? ⟨w.heap.size, 0, none⟩ = some (.int .i64 c) ∧ w'.cell? ⟨w.heap.size, 1, none⟩ = some (.slice (some ⟨g, 0, none⟩) n cap) ∧ w'.cell? ⟨w.heap.size + 1, 2, none⟩ = some (.int .i64 co))) (by kernel_rfl) ?_ (fun hHeld => ?_)
  · exact ⟨a0, a1, b2⟩
  refine wpAnyH_take (i := 0) (v := .pointer (some ⟨w.heap.size, 1, none⟩)) rfl (by kernel_rfl) (by kernel_rfl) (by kernel_rfl) (fun _ _ _ h => h) (Or.inl ⟨by kernel_rfl, fun w hSw => by first | (go_simp; done) | (dsimp only at hSw; obtain ⟨hS0, hS1, hS2⟩ := hSw; go_simp; done) | rfl⟩) (by assumption) ?_
  simp only [Act.put, List.getElem_toArray, List.getElem_cons_succ, List.getElem_cons_zero, List.setIfInBounds_toArray, List.set_cons_succ, List.set_cons_zero]
  refine wpAnyH_take (i := 1) (v := .slice (some ⟨g, 0, none⟩) n cap) rfl (by kernel_rfl) (by kernel_rfl) (by kernel_rfl) (fun _ _ _ h => h) (Or.inl ⟨by kernel_rfl, fun w hSw => by first | (go_simp; done) | (dsimp only at hSw; obtain ⟨hS0, hS1, hS2⟩ := hSw; go_simp; done) | rfl⟩) (by assumption) ?_
  simp only [Act.put, List.getElem_toArray, List.getElem_cons_succ, List.getElem_cons_zero, List.setIfInBounds_toArray, List.set_cons_succ, List.set_cons_zero]
  refine wpAnyH_take (i := 2) (v := .int .i64 n) rfl (by kernel_rfl) (by kernel_rfl) (by kernel_rfl) (fun _ _ _ h => h) (Or.inl ⟨by kernel_rfl, fun w hSw => by first | (go_simp; done) | (dsimp only at hSw; obtain ⟨hS0, hS1, hS2⟩ := hSw; go_simp; done) | rfl⟩) (by assumption) ?_
  simp only [Act.put, List.getElem_toArray, List.getElem_cons_succ, List.getElem_cons_zero, List.setIfInBounds_toArray, List.set_cons_succ, List.set_cons_zero]
  refine wpAnyH_take (i := 3) (v := .int .i64 q) rfl (by kernel_rfl) (by kernel_rfl) (by kernel_rfl) (fun _ _ _ h => h) (Or.inl ⟨by kernel_rfl, fun w hSw => by first | (go_simp; done) | (dsimp only at hSw; obtain ⟨hS0, hS1, hS2⟩ := hSw; go_simp; done) | rfl⟩) (by assumption) ?_
  simp only [Act.put, List.getElem_toArray, List.getElem_cons_succ, List.getElem_cons_zero, List.setIfInBounds_toArray, List.set_cons_succ, List.set_cons_zero]
  refine wpAnyH_take (i := 5) (v := .pointer (some ⟨w.heap.size, 1, none⟩)) rfl (by kernel_rfl) (by kernel_rfl) (by kernel_rfl) (fun _ _ _ h => h) (Or.inl ⟨by kernel_rfl, fun w hSw => by first | (go_simp; done) | (dsimp only at hSw; obtain ⟨hS0, hS1, hS2⟩ := hSw; go_simp; done) | rfl⟩) (by assumption) ?_
  simp only [Act.put, List.getElem_toArray, List.getElem_cons_succ, List.getElem_cons_zero, List.setIfInBounds_toArray, List.set_cons_succ, List.set_cons_zero]
  refine wpAnyH_take (i := 6) (v := .slice (some ⟨g, 0, none⟩) n cap) rfl (by kernel_rfl) (by kernel_rfl) (by kernel_rfl) (fun _ _ _ h => h) (Or.inl ⟨by kernel_rfl, fun w hSw => by first | (go_simp; done) | (dsimp only at hSw; obtain ⟨hS0, hS1, hS2⟩ := hSw; go_simp; done) | rfl⟩) (by assumption) ?_
  simp only [Act.put, List.getElem_toArray, List.getElem_cons_succ, List.getElem_cons_zero, List.setIfInBounds_toArray, List.set_cons_succ, List.set_cons_zero]
  refine wpAnyH_ready (rs := [4]) (by kernel_rfl) (by simp) ?_
  refine AllReadyH.cons rfl (fun K hK => ?_) AllReadyH.nil
  rw [if_pos (by kernel_rfl)]
  refine wp_make _ _ 56 rfl w.heap.size 3 i0 (.int .i64 0) 1 Try.underlying56 hi hz0 hz1 .i64 .i64 _ q rfl rfl rfl (by rw [hz2]; omega) (by unfold maxLen; omega) hbW ?_
  intro w1 hown1 hgrow1
  have L1 : Below W.heap.size W w1 := ((Below.refl _ _).drew).grown hgrow1 (Nat.le_refl _) (fun k hk => by cases hk)
  try simp only [Act.put, List.getElem_toArray, List.getElem_cons_succ, List.getElem_cons_zero, List.setIfInBounds_toArray, List.set_cons_succ, List.set_cons_zero]
  refine hK.out _ _ ?_ (fun hHeld2 => ?_)
  · first | exact hHeld | exact ⟨(L2.cell (p := ⟨w.heap.size, 0, none⟩) l0).trans a0, (L2.cell (p := ⟨w.heap.size, 1, none⟩) l0).trans a1, (L2.cell (p := ⟨w.heap.size + 1, 2, none⟩) l1).trans b2⟩ | exact ⟨(L1.cell (p := ⟨w.heap.size, 0, none⟩) l0).trans a0, (L1.cell (p := ⟨w.heap.size, 1, none⟩) l0).trans a1, (L1.cell (p := ⟨w.heap.size + 1, 2, none⟩) l1).trans b2⟩
  clear hK K hHeld
  have hHeld := hHeld2
  clear hHeld2
  refine wpAnyH_ready (rs := [7]) (by kernel_rfl) (by simp) ?_
  refine AllReadyH.cons rfl (fun K hK => ?_) AllReadyH.nil
  rw [if_pos (by kernel_rfl)]
  refine wp_append_lies _ _ _ 56 rfl w.heap.size 3 i0 (.int .i64 0) 1 8 Try.underlying56 hi hz0 hz1 hz2 rfl (by omega) _ 0 [] rfl hown1 ⟨g, 0, none⟩ n cap (zc o.s) rfl (by rw [zc_length, HN.out, Nat.mul_one]) (zc_at (HC1.out _ L1)) (zc_one _) hnp (by unfold maxLen; omega) (by omega) (Nat.le_trans hbW L1.size) _ rfl ?_
  intro g1 cap1 w2 hown2 hgrow2 hat2 hlt2
  have L2 : Below W.heap.size W w2 := L1.grown hgrow2 L1.size (fun k hk => by cases hk; exact Nat.le_refl _)
  try simp only [Act.put, List.getElem_toArray, List.getElem_cons_succ, List.getElem_cons_zero, List.setIfInBounds_toArray, List.set_cons_succ, List.set_cons_zero]
  refine hK.out _ _ ?_ (fun hHeld2 => ?_)
  · first | exact hHeld | exact ⟨(L2.cell (p := ⟨w.heap.size, 0, none⟩) l0).trans a0, (L2.cell (p := ⟨w.heap.size, 1, none⟩) l0).trans a1, (L2.cell (p := ⟨w.heap.size + 1, 2, none⟩) l1).trans b2⟩ | exact ⟨(L1.cell (p := ⟨w.heap.size, 0, none⟩) l0).trans a0, (L1.cell (p := ⟨w.heap.size, 1, none⟩) l0).trans a1, (L1.cell (p := ⟨w.heap.size + 1, 2, none⟩) l1).trans b2⟩
  clear hK K hHeld
  have hHeld := hHeld2
  clear hHeld2
  refine wpAnyH_ready (rs := [8]) (by kernel_rfl) (by simp) ?_
  refine AllReadyH.cons rfl (fun K hK => ?_) AllReadyH.nil
  go_simp
  refine hK.out _ _ ?_ (fun hHeld2 => ?_)
  · first | exact hHeld | exact ⟨(L2.cell (p := ⟨w.heap.size, 0, none⟩) l0).trans a0, (L2.cell (p := ⟨w.heap.size, 1, none⟩) l0).trans a1, (L2.cell (p := ⟨w.heap.size + 1, 2, none⟩) l1).trans b2⟩ | exact ⟨(L1.cell (p := ⟨w.heap.size, 0, none⟩) l0).trans a0, (L1.cell (p := ⟨w.heap.size, 1, none⟩) l0).trans a1, (L1.cell (p := ⟨w.heap.size + 1, 2, none⟩) l1).trans b2⟩
  clear hK K hHeld
  have hHeld := hHeld2
  clear hHeld2
  refine wpAnyH_done (by kernel_rfl) ?_ _
  have a0 : w2.cell? ⟨w.heap.size, 0, none⟩ = some (.int .i64 c) := (L2.cell (p := ⟨w.heap.size, 0, none⟩) l0).trans a0
  have a1 : w2.cell? ⟨w.heap.size, 1, none⟩ = some (.slice (some ⟨g, 0, none⟩) n cap) := (L2.cell (p := ⟨w.heap.size, 1, none⟩) l0).trans a1
  have b2 : w2.cell? ⟨w.heap.size + 1, 2, none⟩ = some (.int .i64 co) := (L2.cell (p := ⟨w.heap.size + 1, 2, none⟩) l1).trans b2
  rw [Nat.zero_add] at hown2
  have hg1 : W.heap.size ≤ g1 := by
    rcases hat2 with h | h
    · have h' : some W.heap.size = some g1 := h
      exact Nat.le_of_eq (Option.some.inj h')
    · rw [h]; exact L1.size
  have m3 := heap_new w2.drew (.cells #[.int .i64 x] 3)
  have L3 : Below w2.heap.size w2 (w2.drew.alloc (.cells #[.int .i64 x] 3)) := ((Below.refl _ _).drew).trans (new_below w2.drew _)
  clear hHeld
  go_wp2
  refine wp_region_held_drew (S := (fun w' => w'.cell? ⟨w.heap.size, 0, none⟩ = some (.int .i64 c) ∧ w'.cell? ⟨w.heap.size, 1, none⟩ = some (.slice (some ⟨g, 0, none⟩) n cap) ∧ w'.cell? ⟨w.heap.size + 1, 2, none⟩ = some (.int .i64 co))) (by kernel_rfl) ?_ (fun hHeld => ?_)
  · exact ⟨a0, a1, b2⟩
  refine wpAnyH_take (i := 0) (v := .pointer (some ⟨w.heap.size, 0, none⟩)) rfl (by kernel_rfl) (by kernel_rfl) (by kernel_rfl) (fun _ _ _ h => h) (Or.inl ⟨by kernel_rfl, fun w hSw => by first | (go_simp; done) | (dsimp only at hSw; obtain ⟨hS0, hS1, hS2⟩ := hSw; go_simp; done) | rfl⟩) (by assumption) ?_
  simp only [Act.put, List.getElem_toArray, List.getElem_cons_succ, List.getElem_cons_zero, List.setIfInBounds_toArray, List.set_cons_succ, List.set_cons_zero]
  refine wpAnyH_take (i := 1) (v := .int .i64 c) rfl (by kernel_rfl) (by kernel_rfl) (by kernel_rfl) (fun _ _ _ h => h) (Or.inl ⟨by kernel_rfl, fun w hSw => by first | (go_simp; done) | (dsimp only at hSw; obtain ⟨hS0, hS1, hS2⟩ := hSw; go_simp; done) | rfl⟩) (by assumption) ?_
  simp only [Act.put, List.getElem_toArray, List.getElem_cons_succ, List.getElem_cons_zero, List.setIfInBounds_toArray, List.set_cons_succ, List.set_cons_zero]
  refine wpAnyH_take (i := 2) (v := .pointer (some ⟨w.heap.size + 1, 2, none⟩)) rfl (by kernel_rfl) (by kernel_rfl) (by kernel_rfl) (fun _ _ _ h => h) (Or.inl ⟨by kernel_rfl, fun w hSw => by first | (go_simp; done) | (dsimp only at hSw; obtain ⟨hS0, hS1, hS2⟩ := hSw; go_simp; done) | rfl⟩) (by assumption) ?_
  simp only [Act.put, List.getElem_toArray, List.getElem_cons_succ, List.getElem_cons_zero, List.setIfInBounds_toArray, List.set_cons_succ, List.set_cons_zero]
  refine wpAnyH_take (i := 3) (v := .int .i64 co) rfl (by kernel_rfl) (by kernel_rfl) (by kernel_rfl) (fun _ _ _ h => h) (Or.inl ⟨by kernel_rfl, fun w hSw => by first | (go_simp; done) | (dsimp only at hSw; obtain ⟨hS0, hS1, hS2⟩ := hSw; go_simp; done) | rfl⟩) (by assumption) ?_
  simp only [Act.put, List.getElem_toArray, List.getElem_cons_succ, List.getElem_cons_zero, List.setIfInBounds_toArray, List.set_cons_succ, List.set_cons_zero]
  refine wpAnyH_take (i := 4) (v := .int .i64 cc) rfl (by kernel_rfl) (by kernel_rfl) (by kernel_rfl) (fun _ _ _ h => h) (Or.inl ⟨by kernel_rfl, fun w hSw => by first | (go_simp; done) | (dsimp only at hSw; obtain ⟨hS0, hS1, hS2⟩ := hSw; go_simp; done) | rfl⟩) (by assumption) ?_
  simp only [Act.put, List.getElem_toArray, List.getElem_cons_succ, List.getElem_cons_zero, List.setIfInBounds_toArray, List.set_cons_succ, List.set_cons_zero]
  refine wpAnyH_take (i := 5) (v := .slice (some ⟨g1, 0, none⟩) n cap1) rfl (by kernel_rfl) (by kernel_rfl) (by kernel_rfl) (fun _ _ _ h => h) (Or.inl ⟨by kernel_rfl, fun w hSw => by first | (go_simp; done) | (dsimp only at hSw; obtain ⟨hS0, hS1, hS2⟩ := hSw; go_simp; done) | rfl⟩) (by assumption) ?_
  simp only [Act.put, List.getElem_toArray, List.getElem_cons_succ, List.getElem_cons_zero, List.setIfInBounds_toArray, List.set_cons_succ, List.set_cons_zero]
  refine wpAnyH_take (i := 6) (v := .int .i64 x) rfl (by kernel_rfl) (by kernel_rfl) (by kernel_rfl) (fun _ _ _ h => h) (Or.inl ⟨by kernel_rfl, fun w hSw => by first | (go_simp; done) | (dsimp only at hSw; obtain ⟨hS0, hS1, hS2⟩ := hSw; go_simp; done) | rfl⟩) (by assumption) ?_
  simp only [Act.put, List.getElem_toArray, List.getElem_cons_succ, List.getElem_cons_zero, List.setIfInBounds_toArray, List.set_cons_succ, List.set_cons_zero]
  refine wpAnyH_ready (rs := [7]) (by kernel_rfl) (by simp) ?_
  refine AllReadyH.cons rfl (fun K hK => ?_) AllReadyH.nil
  go_simp
  refine hK.out _ _ ?_ (fun hHeld2 => ?_)
  · first | exact hHeld | exact ⟨(K4.cell (p := ⟨w.heap.size, 0, none⟩) l0).trans a0, (K4.cell (p := ⟨w.heap.size, 1, none⟩) l0).trans a1, (K4.cell (p := ⟨w.heap.size + 1, 2, none⟩) l1).trans b2⟩ | exact ⟨(L3.cell (p := ⟨w.heap.size, 0, none⟩) (Nat.lt_of_lt_of_le l0 L2.size)).trans a0, (L3.cell (p := ⟨w.heap.size, 1, none⟩) (Nat.lt_of_lt_of_le l0 L2.size)).trans a1, (L3.cell (p := ⟨w.heap.size + 1, 2, none⟩) (Nat.lt_of_lt_of_le l1 L2.size)).trans b2⟩ | (refine ⟨?_, ?_, ?_⟩ <;> rw [World.cell?_setCell_other _ _ _ _ (by simp), World.cell?_setCell_other _ _ _ _ (by simp)] <;> first | exact (K4.cell (p := ⟨w.heap.size, 0, none⟩) l0).trans a0 | exact (K4.cell (p := ⟨w.heap.size, 1, none⟩) l0).trans a1 | exact (K4.cell (p := ⟨w.heap.size + 1, 2, none⟩) l1).trans b2)
  clear hK K hHeld
  have hHeld := hHeld2
  clear hHeld2
  refine wpAnyH_ready (rs := [8]) (by kernel_rfl) (by simp) ?_
  refine AllReadyH.cons rfl (fun K hK => ?_) AllReadyH.nil
  rw [if_pos (by kernel_rfl)]
  refine wp_append_lies _ _ _ 56 rfl w.heap.size 3 i0 (.int .i64 0) 1 8 Try.underlying56 hi hz0 hz1 hz2 rfl (by omega) _ n ([] ++ zc o.s) rfl (Pk.own_below hown2 L3 (Nat.le_refl _)) ⟨w2.heap.size, 0, none⟩ 1 1 [.int .i64 x] rfl rfl (one_at m3) (by simp [Value.oneCell', Value.cells]) (by omega) (by unfold maxLen; omega) (by omega) (Nat.le_trans (Nat.le_trans hbW L2.size) L3.size) _ rfl ?_
  intro g4 cap4 w4 hown4 hgrow4 hat4 hlt4
  have K4 : Below W.heap.size w2 w4 := (L3.mono L2.size).grown hgrow4 (Nat.le_trans L2.size L3.size) (fun k hk => by cases hk; exact hg1)
  have L4 : Below W.heap.size W w4 := L2.trans K4
  have m4 := kept L4 l2 HM3.out
  have d0 : w4.cell? ⟨w.heap.size + 1 + 1, 0, none⟩ = some (.int .i64 0) := cell_at m4 0
  have d1 : w4.cell? ⟨w.heap.size + 1 + 1, 1, none⟩ = some (.slice none 0 0) := cell_at m4 1
  have f0 : w4.frozen? ⟨w.heap.size + 1 + 1, 0, none⟩ = false := frozen_at m4 0
  have f1 : w4.frozen? ⟨w.heap.size + 1 + 1, 1, none⟩ = false := frozen_at m4 1
  try simp only [Act.put, List.getElem_toArray, List.getElem_cons_succ, List.getElem_cons_zero, List.setIfInBounds_toArray, List.set_cons_succ, List.set_cons_zero]
  refine hK.out _ _ ?_ (fun hHeld2 => ?_)
  · first | exact hHeld | exact ⟨(K4.cell (p := ⟨w.heap.size, 0, none⟩) l0).trans a0, (K4.cell (p := ⟨w.heap.size, 1, none⟩) l0).trans a1, (K4.cell (p := ⟨w.heap.size + 1, 2, none⟩) l1).trans b2⟩ | exact ⟨(L3.cell (p := ⟨w.heap.size, 0, none⟩) (Nat.lt_of_lt_of_le l0 L2.size)).trans a0, (L3.cell (p := ⟨w.heap.size, 1, none⟩) (Nat.lt_of_lt_of_le l0 L2.size)).trans a1, (L3.cell (p := ⟨w.heap.size + 1, 2, none⟩) (Nat.lt_of_lt_of_le l1 L2.size)).trans b2⟩ | (refine ⟨?_, ?_, ?_⟩ <;> rw [World.cell?_setCell_other _ _ _ _ (by simp), World.cell?_setCell_other _ _ _ _ (by simp)] <;> first | exact (K4.cell (p := ⟨w.heap.size, 0, none⟩) l0).trans a0 | exact (K4.cell (p := ⟨w.heap.size, 1, none⟩) l0).trans a1 | exact (K4.cell (p := ⟨w.heap.size + 1, 2, none⟩) l1).trans b2)
  clear hK K hHeld
  have hHeld := hHeld2
  clear hHeld2
  refine wpAnyH_take (i := 9) (v := .agg #[.int .i64 cc, .slice (some ⟨g4, 0, none⟩) (n + 1) cap4]) rfl (by kernel_rfl) (by kernel_rfl) (by kernel_rfl) (fun _ _ _ h => h) (Or.inl ⟨by kernel_rfl, fun w hSw => by first | (go_simp; done) | (dsimp only at hSw; obtain ⟨hS0, hS1, hS2⟩ := hSw; go_simp; done) | rfl⟩) (by assumption) ?_
  simp only [Act.put, List.getElem_toArray, List.getElem_cons_succ, List.getElem_cons_zero, List.setIfInBounds_toArray, List.set_cons_succ, List.set_cons_zero]
  refine wpAnyH_ready (rs := [10]) (by kernel_rfl) (by simp) ?_
  refine AllReadyH.cons rfl (fun K hK => ?_) AllReadyH.nil
  go_simp
  refine hK.out _ _ ?_ (fun hHeld2 => ?_)
  · first | exact hHeld | exact ⟨(K4.cell (p := ⟨w.heap.size, 0, none⟩) l0).trans a0, (K4.cell (p := ⟨w.heap.size, 1, none⟩) l0).trans a1, (K4.cell (p := ⟨w.heap.size + 1, 2, none⟩) l1).trans b2⟩ | exact ⟨(L3.cell (p := ⟨w.heap.size, 0, none⟩) (Nat.lt_of_lt_of_le l0 L2.size)).trans a0, (L3.cell (p := ⟨w.heap.size, 1, none⟩) (Nat.lt_of_lt_of_le l0 L2.size)).trans a1, (L3.cell (p := ⟨w.heap.size + 1, 2, none⟩) (Nat.lt_of_lt_of_le l1 L2.size)).trans b2⟩ | (refine ⟨?_, ?_, ?_⟩ <;> rw [World.cell?_setCell_other _ _ _ _ (by simp), World.cell?_setCell_other _ _ _ _ (by simp)] <;> first | exact (K4.cell (p := ⟨w.heap.size, 0, none⟩) l0).trans a0 | exact (K4.cell (p := ⟨w.heap.size, 1, none⟩) l0).trans a1 | exact (K4.cell (p := ⟨w.heap.size + 1, 2, none⟩) l1).trans b2)
  clear hK K hHeld
  have hHeld := hHeld2
  clear hHeld2
  refine wpAnyH_done (by kernel_rfl) ?_ _
  have HV : Hid (_) := (own_wv (o := ovr o co x) (n := n + 1) (g := g4) (cap := cap4) (by
    have e : zc (ovr o co x).s = [] ++ zc o.s ++ [.int .i64 x] := by simp [zc, ovr]
    rw [e]
    exact hown4) (by simp [ovr, HN.out]) (by omega)).base hbs
  have hg4 : W.heap.size ≤ g4 := by
    rcases hat4 with h | h
    · have h' : some g1 = some g4 := h
      rw [← Option.some.inj h']
      exact hg1
    · rw [h]
      exact Nat.le_trans L2.size L3.size
  have hne : g4 ≠ w.heap.size + 1 + 1 := by omega
  have L5 : Below (w.heap.size + 1 + 1) w4 ((w4.setCell ⟨w.heap.size + 1 + 1, 0, none⟩ (.int .i64 cc)).setCell ⟨w.heap.size + 1 + 1, 1, none⟩ (.slice (some ⟨g4, 0, none⟩) (n + 1) cap4)) := ((Below.refl _ _).setCell (p := ⟨w.heap.size + 1 + 1, 0, none⟩) (Nat.le_refl _) _).setCell (p := ⟨w.heap.size + 1 + 1, 1, none⟩) (Nat.le_refl _) _
  have HBK : Hid (∀ g' cap', Value.agg #[.int .i64 cc, .slice (some ⟨g4, 0, none⟩) (n + 1) cap4] = .agg #[.int .i64 cc, .slice (some ⟨g', 0, none⟩) (ovr o co x).s.length cap'] → ((w4.setCell ⟨w.heap.size + 1 + 1, 0, none⟩ (.int .i64 cc)).setCell ⟨w.heap.size + 1 + 1, 1, none⟩ (.slice (some ⟨g4, 0, none⟩) (n + 1) cap4)).heap[g']? = w4.heap[g']?) := by
    intro g' cap' hv
    simp only [Value.agg.injEq, Array.mk.injEq, List.cons.injEq, Value.slice.injEq, Option.some.injEq, Addr.mk.injEq] at hv
    have hgg : g' = g4 := hv.2.1.1.1.symm
    rw [hgg, Below.heap_setCell _ ⟨w.heap.size + 1 + 1, 1, none⟩ _ g4 hne, Below.heap_setCell _ ⟨w.heap.size + 1 + 1, 0, none⟩ _ g4 hne]
  have HW : Hid (Wv bs ((w4.setCell ⟨w.heap.size + 1 + 1, 0, none⟩ (.int .i64 cc)).setCell ⟨w.heap.size + 1 + 1, 1, none⟩ (.slice (some ⟨g4, 0, none⟩) (n + 1) cap4)) (.agg #[.int .i64 cc, .slice (some ⟨g4, 0, none⟩) (n + 1) cap4]) (ovr o co x)) := by
    obtain ⟨g', cap', hv, hlt, h0, hcell⟩ := HV.out
    have hcc2 : (ovr o co x).c = cc := by rw [← hcc, ← HO.out]; rfl
    rw [hcc2] at hv
    refine ⟨g', cap', by rw [hcc2]; exact hv, hlt.of_block (by rw [World.size_setCell, World.size_setCell]; exact Nat.le_refl _) (HBK.out g' cap' hv), h0, fun i hi => ?_⟩
    simp only [Value.agg.injEq, Array.mk.injEq, List.cons.injEq, Value.slice.injEq, Option.some.injEq, Addr.mk.injEq] at hv
    have hgg : g' = g4 := hv.2.1.1.1.symm
    rw [World.cell?_setCell_other _ _ _ _ (by intro h; apply hne; rw [← hgg]; simpa using (congrArg Addr.block h).symm), World.cell?_setCell_other _ _ _ _ (by intro h; apply hne; rw [← hgg]; simpa using (congrArg Addr.block h).symm)]
    exact hcell i hi
  have LF := (N.trans (L4.mono N.size)).trans (L5.mono (by omega : w.heap.size ≤ w.heap.size + 1 + 1))
  have z0 := World.cell?_setCell_same w4 ⟨w.heap.size + 1 + 1, 0, none⟩ (.int .i64 cc) d0
  clear hHeld HV
  generalize hw5 : (w4.setCell ⟨w.heap.size + 1 + 1, 0, none⟩ (.int .i64 cc)).setCell ⟨w.heap.size + 1 + 1, 1, none⟩ (.slice (some ⟨g4, 0, none⟩) (n + 1) cap4) = w5 at *
  have y0 : w5.cell? ⟨w.heap.size + 1 + 1, 0, none⟩ = some (.int .i64 cc) := by rw [← hw5, World.cell?_setCell_other _ _ _ _ (by simp)]; exact z0
  have y1 : w5.cell? ⟨w.heap.size + 1 + 1, 1, none⟩ = some (.slice (some ⟨g4, 0, none⟩) (n + 1) cap4) := by
    rw [← hw5]
    exact World.cell?_setCell_same _ _ _ (by rw [World.cell?_setCell_other _ _ _ _ (by simp)]; exact d1)
  clear hw5 z0 d0 d1 f0 f1
  go_wp2
  refine bodyPost_ret (v := .agg #[.int .i64 cc, .slice (some ⟨g4, 0, none⟩) (n + 1) cap4]) (by simp [results, Try.results112, go_sem, y0, y1]) rfl ?_
  exact ⟨_, rfl, LF, HW.out⟩

end Tf
end Go.Proofs.Ytmhongcbgokilad

/- Push and Pop of the program's heap of ways. -/
import Derived.Test.YtfoccmhmgdengaaEaHwM
import Derived.Deep.RegionHeld3
import Derived.Deep.Cut
namespace Go.Proofs.Ytfoccmhmgdengaa
namespace Rd
open Go.ChangeShapes Go.WideShapes Go.ChangeAt Go.RowKit
open Pk (new_below join_below cell_at heap_new frozen_at lt_of kept heap_old info_of)
set_option linter.unusedSimpArgs false
set_option linter.unusedVariables false

/-- The cells of one way, new. -/
theorem three_new {w : World} {g : Nat} {v : Vw} {ty : TypeId} {f : Nat × Nat} (h : w.heap[g]? = some (.cells #[.int .i64 v.s, .int .i64 v.y, .int .i64 (v.n : Int)] ty f)) : ∀ j u, (vc1 v)[j]? = some u → w.cell? (Addr.add ⟨g, 0, none⟩ j) = some u := by
  intro j u hu
  rw [add_plain, Nat.zero_add, cell_at h j]
  simpa [vc1] using hu

theorem vc_one (v : Vw) : ∀ u ∈ vc1 v, u.oneCell' = true := by
  intro u hu
  simp only [vc1, List.mem_cons, List.not_mem_nil, or_false] at hu
  rcases hu with rfl | rfl | rfl <;> rfl

theorem info_vway : (Try.prog.info? 61).map (fun i => (i.zero, i.size, i.bytes)) = some (some (vV ⟨0, 0, 0⟩), 3, 24) := by kernel_rfl

theorem as_way (v : Vw) (w : World) : (Instr.typeAssert (.iface 61 (vV v)) 20 61 false).run Try.prog w = .ok (vV v) w := by kernel_rfl

theorem own_form3 {w : World} {B n : Nat} {v : Value} {xs : List Value} (h : w.ownsRow B 61 3 v n xs) (hn : 0 < n) : ∃ g cap cur, v = .slice (some ⟨g, 0, none⟩) n cap ∧ w.heap[g]? = some (.cells cur 61 (0, 0)) := by
  obtain ⟨hl, ⟨hv, h0⟩ | ⟨g, cap, cur, hv, hg, hh, h1, h3, h4, h5⟩⟩ := h
  · omega
  · exact ⟨g, cap, cur, hv, hh⟩

theorem box_set {w : World} {b : Nat} {u v : Value} {t : TypeId} {fz : Nat × Nat} (h : w.heap[b]? = some (.cells #[u] t fz)) : (w.setCell ⟨b, 0, none⟩ v).heap[b]? = some (.cells #[v] t fz) := by
  unfold World.setCell
  simp [Array.getElem?_modify, h]

theorem way_boxes {w : World} {b g : Nat} {cs cur : Array Value} (h : w.heap[b]? = some (.cells cs 96 (0, 0))) (hg : w.heap[g]? = some (.cells cur 61 (0, 0))) : b ≠ g := by
  intro e
  subst e
  rw [h] at hg
  simp only [Option.some.injEq, Obj.cells.injEq] at hg
  exact absurd hg.2.1 (by decide)

theorem ko_drew {hb g : Nat} {w w1 : World} (h : Ko hb g w w1) : Ko hb g w w1.drew := ⟨h.os, h.tape, h.output, h.size, h.block⟩
theorem hw_drew {B hb g cap n : Nat} {f : Nat → Vw} {w : World} (h : Hw B hb g cap f n w) : Hw B hb g cap f n w.drew := ⟨h.box, h.row⟩

set_option maxRecDepth 100000 in
set_option maxHeartbeats 4000000 in
theorem wayPush_val (B hb g cap n : Nat) (f : Nat → Vw) (v : Vw) (w : World) (H : Hw B hb g cap f n w) (hn : n < 1000000) (hB : B ≤ w.heap.size) :
    Calls Try.prog 100 #[.pointer (some ⟨hb, 0, none⟩), .iface 61 (vV v)] w fun e w' => e = .returned (.tuple #[]) ∧ ∃ g' cap', Hw B hb g' cap' (upd f n v) (n + 1) w' ∧ Ko hb g w w' ∧ (g' = g ∨ w.heap.size ≤ g') := by
  obtain ⟨i0, hi, hz0, hz1, hz2⟩ := info_of info_vway
  have c0 := H.cell
  have ta := as_way v
  have N1 := new_below w (.cells #[.int .i64 v.s, .int .i64 v.y, .int .i64 (v.n : Int)] 61)
  have H1 := H.on N1
  have lA := heap_new w (.cells #[.int .i64 v.s, .int .i64 v.y, .int .i64 (v.n : Int)] 61)
  have c1 := H1.cell
  have hbw := lt_of H.box
  have HH : Hid (Hw B hb g cap f n w) := H
  have HH1 : Hid (Hw B hb g cap f n (w.alloc (.cells #[.int .i64 v.s, .int .i64 v.y, .int .i64 (v.n : Int)] 61))) := H1
  have HA : Hid (_) := lA
  clear H H1 lA N1
  go_enter Try.func100, Try.ntmps100
  go_upto_region 0 with fail
  refine wp_region_held_drew (S := (fun w' => True)) (by kernel_rfl) ?_ (fun hHeld => ?_)
  · trivial
  refine wpAnyH_take (i := 0) (v := .pointer (some ⟨hb, 0, none⟩)) rfl (by kernel_rfl) (by kernel_rfl) (by kernel_rfl) (fun _ _ _ h => h) (Or.inl ⟨by kernel_rfl, fun w hSw => by first | (go_simp; done) | (dsimp only at hSw; obtain ⟨hS0⟩ := hSw; go_simp; done) | rfl⟩) (by assumption) ?_
  simp only [Act.put, List.getElem_toArray, List.getElem_cons_succ, List.getElem_cons_zero, List.setIfInBounds_toArray, List.set_cons_succ, List.set_cons_zero]
  refine wpAnyH_take (i := 1) (v := .pointer (some ⟨hb, 0, none⟩)) rfl (by kernel_rfl) (by kernel_rfl) (by kernel_rfl) (fun _ _ _ h => h) (Or.inl ⟨by kernel_rfl, fun w hSw => by first | (go_simp; done) | (dsimp only at hSw; obtain ⟨hS0⟩ := hSw; go_simp; done) | rfl⟩) (by assumption) ?_
  simp only [Act.put, List.getElem_toArray, List.getElem_cons_succ, List.getElem_cons_zero, List.setIfInBounds_toArray, List.set_cons_succ, List.set_cons_zero]
  refine wpAnyH_take (i := 2) (v := .pointer (some ⟨hb, 0, none⟩)) rfl (by kernel_rfl) (by kernel_rfl) (by kernel_rfl) (fun _ _ _ h => h) (Or.inl ⟨by kernel_rfl, fun w hSw => by first | (go_simp; done) | (dsimp only at hSw; obtain ⟨hS0⟩ := hSw; go_simp; done) | rfl⟩) (by assumption) ?_
  simp only [Act.put, List.getElem_toArray, List.getElem_cons_succ, List.getElem_cons_zero, List.setIfInBounds_toArray, List.set_cons_succ, List.set_cons_zero]
  refine wpAnyH_take (i := 4) (v := .iface 61 (vV v)) rfl (by kernel_rfl) (by kernel_rfl) (by kernel_rfl) (fun _ _ _ h => h) (Or.inl ⟨by kernel_rfl, fun w hSw => by first | (go_simp; done) | (dsimp only at hSw; obtain ⟨hS0⟩ := hSw; go_simp; done) | rfl⟩) (by assumption) ?_
  simp only [Act.put, List.getElem_toArray, List.getElem_cons_succ, List.getElem_cons_zero, List.setIfInBounds_toArray, List.set_cons_succ, List.set_cons_zero]
  refine wpAnyH_take (i := 5) (v := vV v) rfl (by kernel_rfl) (by kernel_rfl) (by kernel_rfl) (fun _ _ _ h => h) (Or.inl ⟨by kernel_rfl, fun w hSw => by first | (go_simp; done) | (dsimp only at hSw; obtain ⟨hS0⟩ := hSw; go_simp; done) | rfl⟩) (by assumption) ?_
  simp only [Act.put, List.getElem_toArray, List.getElem_cons_succ, List.getElem_cons_zero, List.setIfInBounds_toArray, List.set_cons_succ, List.set_cons_zero]
  refine wpAnyH_ready (rs := [3, 6]) (by kernel_rfl) (by simp) ?_
  refine AllReadyH.cons rfl (fun K hK => ?_) (AllReadyH.cons rfl (fun K hK => ?_) (AllReadyH.nil))
  · go_simp
    refine hK.out _ _ ?_ (fun hHeld2 => ?_)
    · trivial
    clear hK K hHeld
    have hHeld := hHeld2
    clear hHeld2
    refine wpAnyH_ready (rs := [6]) (by kernel_rfl) (by simp) ?_
    refine AllReadyH.cons rfl (fun K hK => ?_) (AllReadyH.nil)
    go_simp
    refine hK.out _ _ ?_ (fun hHeld2 => ?_)
    · trivial
    clear hK K hHeld
    have hHeld := hHeld2
    clear hHeld2
    refine wpAnyH_ready (rs := [7]) (by kernel_rfl) (by simp) ?_
    refine AllReadyH.cons rfl (fun K hK => ?_) AllReadyH.nil
    rw [if_pos (by kernel_rfl)]
    refine wp_append_at _ _ 96 rfl B 61 i0 (vV ⟨0, 0, 0⟩) 3 24 Try.underlying96 hi hz0 hz1 hz2 rfl (by decide) (.slice (some ⟨g, 0, none⟩) n cap) n (vcells f n) rfl HH1.out.row ⟨w.heap.size, 0, none⟩ 1 1 (vc1 v) rfl rfl (three_new HA.out) (vc_one v) (by unfold maxLen; omega) (by omega) (by rw [show ((w.alloc (.cells #[.int .i64 v.s, .int .i64 v.y, .int .i64 (v.n : Int)] 61)).drew).heap.size = w.heap.size + 1 from Array.size_push ..]; omega) ?_
    intro v9 w9 O9 G9 hl9
    obtain ⟨g9, cap9, cur9, rfl, hh9⟩ := own_form3 O9 (Nat.succ_pos n)
    have hb9 : w9.heap[hb]? = some (.cells #[.slice (some ⟨g, 0, none⟩) n cap] 96 (0, 0)) := by
      rw [G9.block hb (lt_of HH1.out.box) (by have := HH1.out.ne; simp only [Value.ownBlock, ne_eq, Option.some.injEq]; omega)]
      exact HH1.out.box
    have d0 := cell_at hb9 0
    have d1 := frozen_at hb9 0
    have HE : Hid (Hw B hb g9 cap9 (upd f n v) (n + 1) (w9.setCell ⟨hb, 0, none⟩ (.slice (some ⟨g9, 0, none⟩) (n + 1) cap9)) ∧ Ko hb g w (w9.setCell ⟨hb, 0, none⟩ (.slice (some ⟨g9, 0, none⟩) (n + 1) cap9)) ∧ (g9 = g ∨ w.heap.size ≤ g9)) := by
      refine ⟨⟨box_set hb9, ?_⟩, ?_, ?_⟩
      · rw [← vcells_push]
        exact own_kept O9 (grown_set _) (fun q hq => by
          simp only [Value.ownBlock, Option.some.injEq] at hq
          have := way_boxes hb9 hh9
          simp only [ne_eq, Option.some.injEq]
          omega)
      · exact ((ko_drew (Ko.under (new_below w (.cells #[.int .i64 v.s, .int .i64 v.y, .int .i64 (v.n : Int)] 61)))).trans (Ko.of G9 (Or.inl rfl)) (Or.inl rfl)).trans (Ko.of (grown_set _) (Or.inr (Or.inl rfl))) (Or.inl rfl)
      · rcases hl9 with e | e
        · simp only [Value.ownBlock, Option.some.injEq] at e
          exact Or.inl e
        · simp only [Value.ownBlock, Option.some.injEq] at e
          refine Or.inr ?_
          rw [e]
          show w.heap.size ≤ (w.heap.push _).size
          simp
    simp at d0 d1
    try simp only [Act.put, List.getElem_toArray, List.getElem_cons_succ, List.getElem_cons_zero, List.setIfInBounds_toArray, List.set_cons_succ, List.set_cons_zero]
    refine hK.out _ _ ?_ (fun hHeld2 => ?_)
    · trivial
    clear hK K hHeld
    have hHeld := hHeld2
    clear hHeld2
    refine wpAnyH_take (i := 8) (v := .pointer (some ⟨hb, 0, none⟩)) rfl (by kernel_rfl) (by kernel_rfl) (by kernel_rfl) (fun _ _ _ h => h) (Or.inl ⟨by kernel_rfl, fun w hSw => by first | (go_simp; done) | (dsimp only at hSw; obtain ⟨hS0⟩ := hSw; go_simp; done) | rfl⟩) (by assumption) ?_
    simp only [Act.put, List.getElem_toArray, List.getElem_cons_succ, List.getElem_cons_zero, List.setIfInBounds_toArray, List.set_cons_succ, List.set_cons_zero]
    refine wpAnyH_ready (rs := [9]) (by kernel_rfl) (by simp) ?_
    refine AllReadyH.cons rfl (fun K hK => ?_) AllReadyH.nil
    go_simp
    refine hK.out _ _ ?_ (fun hHeld2 => ?_)
    · trivial
    clear hK K hHeld
    have hHeld := hHeld2
    clear hHeld2
    refine wpAnyH_done (by kernel_rfl) ?_ _
    go_wp2
    refine bodyPost_end (results_none rfl _ _ _) rfl ?_
    exact ⟨rfl, g9, cap9, HE.out.1, HE.out.2.1, HE.out.2.2⟩
  · go_simp
    refine hK.out _ _ ?_ (fun hHeld2 => ?_)
    · trivial
    clear hK K hHeld
    have hHeld := hHeld2
    clear hHeld2
    refine wpAnyH_ready (rs := [3]) (by kernel_rfl) (by simp) ?_
    refine AllReadyH.cons rfl (fun K hK => ?_) (AllReadyH.nil)
    go_simp
    refine hK.out _ _ ?_ (fun hHeld2 => ?_)
    · trivial
    clear hK K hHeld
    have hHeld := hHeld2
    clear hHeld2
    refine wpAnyH_ready (rs := [7]) (by kernel_rfl) (by simp) ?_
    refine AllReadyH.cons rfl (fun K hK => ?_) AllReadyH.nil
    rw [if_pos (by kernel_rfl)]
    refine wp_append_at _ _ 96 rfl B 61 i0 (vV ⟨0, 0, 0⟩) 3 24 Try.underlying96 hi hz0 hz1 hz2 rfl (by decide) (.slice (some ⟨g, 0, none⟩) n cap) n (vcells f n) rfl HH1.out.row ⟨w.heap.size, 0, none⟩ 1 1 (vc1 v) rfl rfl (three_new HA.out) (vc_one v) (by unfold maxLen; omega) (by omega) (by rw [show ((w.alloc (.cells #[.int .i64 v.s, .int .i64 v.y, .int .i64 (v.n : Int)] 61)).drew).heap.size = w.heap.size + 1 from Array.size_push ..]; omega) ?_
    intro v9 w9 O9 G9 hl9
    obtain ⟨g9, cap9, cur9, rfl, hh9⟩ := own_form3 O9 (Nat.succ_pos n)
    have hb9 : w9.heap[hb]? = some (.cells #[.slice (some ⟨g, 0, none⟩) n cap] 96 (0, 0)) := by
      rw [G9.block hb (lt_of HH1.out.box) (by have := HH1.out.ne; simp only [Value.ownBlock, ne_eq, Option.some.injEq]; omega)]
      exact HH1.out.box
    have d0 := cell_at hb9 0
    have d1 := frozen_at hb9 0
    have HE : Hid (Hw B hb g9 cap9 (upd f n v) (n + 1) (w9.setCell ⟨hb, 0, none⟩ (.slice (some ⟨g9, 0, none⟩) (n + 1) cap9)) ∧ Ko hb g w (w9.setCell ⟨hb, 0, none⟩ (.slice (some ⟨g9, 0, none⟩) (n + 1) cap9)) ∧ (g9 = g ∨ w.heap.size ≤ g9)) := by
      refine ⟨⟨box_set hb9, ?_⟩, ?_, ?_⟩
      · rw [← vcells_push]
        exact own_kept O9 (grown_set _) (fun q hq => by
          simp only [Value.ownBlock, Option.some.injEq] at hq
          have := way_boxes hb9 hh9
          simp only [ne_eq, Option.some.injEq]
          omega)
      · exact ((ko_drew (Ko.under (new_below w (.cells #[.int .i64 v.s, .int .i64 v.y, .int .i64 (v.n : Int)] 61)))).trans (Ko.of G9 (Or.inl rfl)) (Or.inl rfl)).trans (Ko.of (grown_set _) (Or.inr (Or.inl rfl))) (Or.inl rfl)
      · rcases hl9 with e | e
        · simp only [Value.ownBlock, Option.some.injEq] at e
          exact Or.inl e
        · simp only [Value.ownBlock, Option.some.injEq] at e
          refine Or.inr ?_
          rw [e]
          show w.heap.size ≤ (w.heap.push _).size
          simp
    simp at d0 d1
    try simp only [Act.put, List.getElem_toArray, List.getElem_cons_succ, List.getElem_cons_zero, List.setIfInBounds_toArray, List.set_cons_succ, List.set_cons_zero]
    refine hK.out _ _ ?_ (fun hHeld2 => ?_)
    · trivial
    clear hK K hHeld
    have hHeld := hHeld2
    clear hHeld2
    refine wpAnyH_take (i := 8) (v := .pointer (some ⟨hb, 0, none⟩)) rfl (by kernel_rfl) (by kernel_rfl) (by kernel_rfl) (fun _ _ _ h => h) (Or.inl ⟨by kernel_rfl, fun w hSw => by first | (go_simp; done) | (dsimp only at hSw; obtain ⟨hS0⟩ := hSw; go_simp; done) | rfl⟩) (by assumption) ?_
    simp only [Act.put, List.getElem_toArray, List.getElem_cons_succ, List.getElem_cons_zero, List.setIfInBounds_toArray, List.set_cons_succ, List.set_cons_zero]
    refine wpAnyH_ready (rs := [9]) (by kernel_rfl) (by simp) ?_
    refine AllReadyH.cons rfl (fun K hK => ?_) AllReadyH.nil
    go_simp
    refine hK.out _ _ ?_ (fun hHeld2 => ?_)
    · trivial
    clear hK K hHeld
    have hHeld := hHeld2
    clear hHeld2
    refine wpAnyH_done (by kernel_rfl) ?_ _
    go_wp2
    refine bodyPost_end (results_none rfl _ _ _) rfl ?_
    exact ⟨rfl, g9, cap9, HE.out.1, HE.out.2.1, HE.out.2.2⟩

set_option maxRecDepth 100000 in
set_option maxHeartbeats 4000000 in
theorem wayPop_val (B hb g cap n : Nat) (f : Nat → Vw) (w : World) (H : Hw B hb g cap f (n + 1) w) (hn : n < 1000000) :
    Calls Try.prog 99 #[.pointer (some ⟨hb, 0, none⟩)] w fun e w' => e = .returned (.iface 61 (vV (f n))) ∧ Hw B hb g cap f n w' ∧ Ko hb g w w' := by
  have c0 := H.cell
  have hbw := lt_of H.box
  have hlt := H.lt
  obtain ⟨a0, a1, a2⟩ := H.at (Nat.lt_succ_self n)
  have hle : n ≤ cap := by
    obtain ⟨_, _, _, h, _⟩ := H.heap
    omega
  have hcm : cap ≤ maxLen := by
    obtain ⟨_, _, _, _, h⟩ := H.heap
    exact h
  unfold maxLen at hcm
  have y0 : wrap64 (((n + 1 : Nat) : Int) - 1) = (n : Int) := by unfold wrap64; omega
  have y1 : IntKind.i64.wrap (((n + 1 : Nat) : Int) - 1) = (n : Int) := by rw [IntKind.wrap_i64]; omega
  have hc : (n : Int) < ((n + 1 : Nat) : Int) := by omega
  have z1 := frozen_at H.box 0
  have HFIN : Hid (∀ W, W = (w.setCell ⟨hb, 0, none⟩ (.slice (some ⟨g, 0, none⟩) n cap)).alloc (.cells #[.int .i64 (f n).s, .int .i64 (f n).y, .int .i64 ((f n).n : Int)] 61) → Hw B hb g cap f n W ∧ Ko hb g w W) := by
    rintro W rfl
    have G := grown_set (w := w) (g := hb) (i := 0) (.slice (some ⟨g, 0, none⟩) n cap)
    have HS : Hw B hb g cap f n (w.setCell ⟨hb, 0, none⟩ (.slice (some ⟨g, 0, none⟩) n cap)) := by
      refine ⟨box_set H.box, ?_⟩
      have O := own_kept H.row G (fun q hq => by
        simp only [Value.ownBlock, Option.some.injEq] at hq
        have := H.ne
        simp only [ne_eq, Option.some.injEq]
        omega)
      obtain ⟨hl, ⟨hv, -⟩ | ⟨g', cap', cur, hv, hb', hh, h1, h2, h3, h4⟩⟩ := O
      · cases hv
      · simp only [Value.slice.injEq, Option.some.injEq, Addr.mk.injEq] at hv
        obtain ⟨⟨rfl, -⟩, -, rfl⟩ := hv
        refine ⟨vcells_length f n, Or.inr ⟨g, cap, cur, rfl, hb', hh, by omega, h2, h3, ?_⟩⟩
        rw [← vcells_take f n, ← h4, List.take_take, Nat.min_eq_left (by omega)]
    exact ⟨HS.on (new_below _ _), (Ko.of G (Or.inr (Or.inl rfl))).trans (Ko.under (new_below _ _)) (Or.inl rfl)⟩
  clear H
  generalize f n = v at *
  go_enter Try.func99, Try.ntmps99
  go_wp2
  go_ret
  exact ⟨rfl, HFIN.out _ rfl⟩

end Rd
end Go.Proofs.Ytfoccmhmgdengaa

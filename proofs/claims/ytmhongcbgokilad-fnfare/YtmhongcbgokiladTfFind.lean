/- The model's search for the best way. -/
import Derived.Test.YtmhongcbgokiladTfRows
import Derived.Test.YtmhongcbgokiladTfLeast
import Derived.Deep.LoopGhost
namespace Go.Proofs.Ytmhongcbgokilad
namespace Tf
open Go.ChangeShapes Go.WideShapes Go.ChangeAt Go.RowKit
open Pk (new_below join_below cell_at heap_new frozen_at lt_of kept heap_old Drawn info_of)
set_option linter.unusedSimpArgs false
set_option linter.unusedVariables false

/-- Where the model's search is. -/
def Sp (E : List Ed) (a b : Int) (bs gk : Nat) (w : World) (vO vD : Value) : Prop := ∃ (ps : List Pw) (d : List Int) (G : Int → Option Wy), JSt E a (ps.map Pw.o) d G ∧ b ∉ d ∧
  w.ownsRow bs 109 2 vO ps.length (wcells ps) ∧ w.ownsRow bs 3 1 vD d.length (zc d) ∧
  (∀ p ∈ ps, w.ownsRow bs 3 1 p.v p.o.s.length (zc p.o.s) ∧ 0 < p.o.s.length ∧ vD.ownBlock ≠ some p.g) ∧ ps.length ≤ 1 + 200 * d.length ∧ gk = ((stn E a).length + 1 - d.length) * 201 + ps.length

theorem sp_start (E : List Ed) (a b : Int) (w : World) : Sp E a b (w.heap.size + 1) (((stn E a).length + 1) * 201 + 1)
    ((((w.alloc (.cells #[.slice none 0 0, .int .i64 0] 109)).alloc (.cells #[.int .i64 a] 3)).alloc (.cells #[.slice (some ⟨w.heap.size + 1, 0, none⟩) 1 1, .int .i64 0] 109)).alloc (.cells #[] 3))
    (.slice (some ⟨w.heap.size + 1 + 1, 0, none⟩) 1 1) (.slice (some ⟨w.heap.size + 1 + 1 + 1, 0, none⟩) 0 0) := by
  have e0 : (w.alloc (.cells #[.slice none 0 0, .int .i64 0] 109)).heap.size = w.heap.size + 1 := Array.size_push ..
  generalize w.alloc (.cells #[.slice none 0 0, .int .i64 0] 109) = W0 at *
  have m1 := heap_new W0 (.cells #[.int .i64 a] 3)
  have e1 : (W0.alloc (.cells #[.int .i64 a] 3)).heap.size = W0.heap.size + 1 := Array.size_push ..
  generalize W0.alloc (.cells #[.int .i64 a] 3) = W1 at *
  have N2 := new_below W1 (.cells #[.slice (some ⟨w.heap.size + 1, 0, none⟩) 1 1, .int .i64 0] 109)
  have m2 := heap_new W1 (.cells #[.slice (some ⟨w.heap.size + 1, 0, none⟩) 1 1, .int .i64 0] 109)
  have e2 : (W1.alloc (.cells #[.slice (some ⟨w.heap.size + 1, 0, none⟩) 1 1, .int .i64 0] 109)).heap.size = W1.heap.size + 1 := Array.size_push ..
  generalize W1.alloc (.cells #[.slice (some ⟨w.heap.size + 1, 0, none⟩) 1 1, .int .i64 0] 109) = W2 at *
  have N3 := new_below W2 (.cells #[] 3)
  have O3 := own_empty W2 (w.heap.size + 1) 3 1 (by omega)
  generalize W2.alloc (.cells #[] 3) = W3 at *
  have m1' := kept N3 (Nat.lt_of_lt_of_le (lt_of m1) N2.size) (kept N2 (lt_of m1) m1)
  have m2' := kept N3 (lt_of m2) m2
  rw [e0] at m1'
  rw [e1, e0] at m2'
  rw [e2, e1, e0] at O3
  refine ⟨[⟨w.heap.size + 1, 1, ⟨0, [a]⟩⟩], [], fun _ => none, jst_start E a, by simp, ?_, O3, ?_, by simp, by simp⟩
  · exact ⟨by simp [wcells], Or.inr ⟨_, 1, _, rfl, by omega, m2', by simp, by simp [maxLen], by simp, by simp [wcells]⟩⟩
  · intro p hp
    simp at hp
    subst hp
    refine ⟨⟨by simp [zc], Or.inr ⟨_, 1, _, rfl, by simp, m1', by simp, by simp [maxLen], by simp, by simp [zc]⟩⟩, by simp, ?_⟩
    simp [Value.ownBlock]
    omega

theorem own_base {w : World} {base b' e size n : Nat} {v : Value} {xs : List Value} (h : w.ownsRow base e size v n xs) (hb : b' ≤ base) : w.ownsRow b' e size v n xs := by
  obtain ⟨hl, h2⟩ := h
  refine ⟨hl, ?_⟩
  rcases h2 with h2 | ⟨g, cap, cur, hv, hg, hr⟩
  · exact Or.inl h2
  · exact Or.inr ⟨g, cap, cur, hv, Nat.le_trans hb hg, hr⟩

theorem wcells_pre {ps : List Pw} {j i : Nat} {u : Value} (h : (wcells (ps.take j))[i]? = some u) : (wcells ps)[i]? = some u := by
  have e : wcells ps = wcells (ps.take j) ++ wcells (ps.drop j) := by rw [← wcells_append, List.take_append_drop]
  rw [e, List.getElem?_append_left (List.getElem?_eq_some_iff.1 h).1]
  exact h

theorem wcells_suf {ps : List Pw} {q i : Nat} {u : Value} (h : (wcells (ps.drop q))[i]? = some u) : (wcells ps)[q * 2 + i]? = some u := by
  rw [wcells_drop, List.getElem?_drop] at h
  exact h

theorem addn (g o j : Nat) : Addr.add ⟨g, o, none⟩ j = ⟨g, o + j, none⟩ := by simp [Addr.add]

theorem two_at {w : World} {g : Nat} {u v : Value} {t : TypeId} (m : w.heap[g]? = some (.cells #[u, v] t (0, 0))) : ∀ j x, [u, v][j]? = some x → w.cell? (Addr.add ⟨g, 0, none⟩ j) = some x := by
  intro j x hx
  obtain ⟨hj, rfl⟩ := List.getElem?_eq_some_iff.1 hx
  rw [add0]
  have h2 : j = 0 ∨ j = 1 := by simp at hj; omega
  rcases h2 with rfl | rfl
  · exact cell_at m 0
  · exact cell_at m 1

theorem own_low {w w1 : World} {B base e size n g cap : Nat} {xs : List Value} (h : w.ownsRow base e size (.slice (some ⟨g, 0, none⟩) n cap) n xs) (L : Below B w w1) (hg : g < B) : w1.ownsRow base e size (.slice (some ⟨g, 0, none⟩) n cap) n xs := by
  obtain ⟨hl, h2⟩ := h
  refine ⟨hl, ?_⟩
  rcases h2 with h2 | ⟨g', cap', cur, hv, hb, hh, hr⟩
  · exact Or.inl h2
  · refine Or.inr ⟨g', cap', cur, hv, hb, ?_, hr⟩
    simp only [Value.slice.injEq, Option.some.injEq, Addr.mk.injEq] at hv
    rw [← hv.1.1] at hh ⊢
    exact (L.block g hg).trans hh

theorem own_cap {w : World} {base e size n g cap : Nat} {xs : List Value} (h : w.ownsRow base e size (.slice (some ⟨g, 0, none⟩) n cap) n xs) : n ≤ cap ∧ cap ≤ maxLen := by
  obtain ⟨-, h2⟩ := h
  rcases h2 with ⟨hv, -⟩ | ⟨g', cap', cur, hv, -, -, h1, h2, -⟩
  · cases hv
  · simp only [Value.slice.injEq] at hv
    rw [hv.2.2]
    exact ⟨h1, h2⟩

set_option maxHeartbeats 8000000 in
set_option maxRecDepth 100000 in
theorem find_val (ea : Option Addr) (E : List Ed) (ce : Nat) (a b : Int) (w : World) (IE : Edges w ea E) (hEl : E.length ≤ 200) (hE : ∀ e ∈ E, edB e = true) :
    Calls Try.prog 70 #[.slice ea E.length ce, .int .i64 a, .int .i64 b] w fun e w' =>
      ((∃ m g cap, isBest E a b m ∧ (m.s.length ≤ 402 ∧ 0 ≤ m.c ∧ m.c ≤ 402000000) ∧ e = .returned (.tuple #[.agg #[.slice (some ⟨g, 0, none⟩) m.s.length cap, .int .i64 m.c], .bool true]) ∧ Ints w' (some ⟨g, 0, none⟩) m.s) ∨
       ((∀ x, isWay E a x → endW x ≠ b) ∧ e = .returned (.tuple #[.agg #[.slice none 0 0, .int .i64 0], .bool false]))) ∧ Below w.heap.size w w' := by
  have HE : Hid (∀ e ∈ E, edB e = true) := hE
  have hU : (stn E a).length ≤ 401 := by rw [stn_length]; omega
  have HS0 : Hid (_) := sp_start E a b w
  have N0 := new_below w (.cells #[.slice none 0 0, .int .i64 0] 109)
  have m0 := heap_new w (.cells #[.slice none 0 0, .int .i64 0] 109)
  have NA := join_below (join_below N0 (new_below _ (.cells #[.int .i64 a] 3))) (join_below (new_below _ (.cells #[.slice (some ⟨w.heap.size + 1, 0, none⟩) 1 1, .int .i64 0] 109)) (new_below _ (.cells #[] 3)))
  have mA := kept (new_below _ (.cells #[] 3)) (Nat.lt_of_lt_of_le (Nat.lt_of_lt_of_le (lt_of m0) (new_below _ (.cells #[.int .i64 a] 3)).size) (new_below _ (.cells #[.slice (some ⟨w.heap.size + 1, 0, none⟩) 1 1, .int .i64 0] 109)).size) (kept (new_below _ (.cells #[.slice (some ⟨w.heap.size + 1, 0, none⟩) 1 1, .int .i64 0] 109)) (Nat.lt_of_lt_of_le (lt_of m0) (new_below _ (.cells #[.int .i64 a] 3)).size) (kept (new_below _ (.cells #[.int .i64 a] 3)) (lt_of m0) m0))
  clear hE N0 m0
  go_enter Try.func70, Try.ntmps70
  go_wp2
  go_loopg [8, 9] (((stn E a).length + 1) * 201 + 1) (fun gk s8 s9 wr => Below w.heap.size w wr ∧ wr.heap[w.heap.size]? = some (.cells #[.slice none 0 0, .int .i64 0] 109) ∧ Aside (Sp E a b (w.heap.size + 1) gk wr s8 s9))
  case atStart => exact ⟨NA, mA, HS0.out⟩
  case round =>
    obtain ⟨LR, hR, HSp⟩ := hrel
    clear HS0 NA mA
    obtain ⟨ps, d, G, S, hbd, OO, OD, HP, hlen, hgk⟩ := HSp.out
    have hdl : d.length ≤ 401 := by have := S.clock; omega
    have hpl : ps.length ≤ 80201 := by omega
    obtain ⟨aO, cO, rfl, hxO⟩ := Pk.own_form OO
    obtain ⟨aD, cD, rfl, ID⟩ := own_ints OD
    have HS : Aside (JSt E a (ps.map Pw.o) d G) := S
    have HG : Aside (b ∉ d ∧ gk = ((stn E a).length + 1 - d.length) * 201 + ps.length) := ⟨hbd, hgk⟩
    have HPP : Hid (_) := HP
    clear S hbd hgk HSp HP
    by_cases h0 : ps.length = 0
    · have HNo : Hid (∀ x, isWay E a x → endW x ≠ b) := by
        have e := List.eq_nil_of_length_eq_zero h0
        subst e
        exact JSt.none HS.out HE.out HG.out.1
      have c0 : wr.cell? ⟨w.heap.size, 0, none⟩ = some (.slice none 0 0) := cell_at hR 0
      have c1 : wr.cell? ⟨w.heap.size, 1, none⟩ = some (.int .i64 0) := cell_at hR 1
      have f0 : wr.frozen? ⟨w.heap.size, 0, none⟩ = false := frozen_at hR 0
      have f1 : wr.frozen? ⟨w.heap.size, 1, none⟩ = false := frozen_at hR 1
      rw [h0]
      clear h0 HS HG HPP hlen hpl OO OD
      go_wp2
      refine bodyPost_ret (v := .tuple #[.agg #[.slice none 0 0, .int .i64 0], .bool false]) (by simp [results, Try.results70, go_sem, c0, c1]) rfl ?_
      exact ⟨Or.inr ⟨HNo.out, rfl⟩, (LR.setCell (p := ⟨w.heap.size, 0, none⟩) (Nat.le_refl _) _).setCell (p := ⟨w.heap.size, 1, none⟩) (Nat.le_refl _) _⟩
    · obtain ⟨gO, rfl⟩ := hxO.resolve_left h0
      have hp0 : 0 < ps.length := by omega
      clear h0 hxO
      obtain ⟨W0, hW0⟩ : ∃ W0, W0 = wr := ⟨_, rfl⟩
      subst hW0
      have hgO := (own_blt OO (g := gO) rfl).2
      go_wp2
      go_loopw [10, 11] (fun s10 s11 wz => ∃ j k : Nat, s10 = .int .i64 j ∧ s11 = .int .i64 k ∧ j < ps.length ∧ k ≤ ps.length ∧ 1 ≤ k ∧ Below W0.heap.size W0 wz ∧ Hid (∃ hj : j < ps.length, ∀ i (h : i < ps.length), i < k → le ps[j].o ps[i].o)) (fun _ s11 _ => ps.length - (intOf s11).toNat)
      case atStart => exact ⟨0, 1, rfl, rfl, hp0, hp0, by omega, Below.refl _ _, hp0, fun i h hi => by have e : i = 0 := (by omega); subst e; exact le_refl _⟩
      case round =>
        obtain ⟨j, k, rfl, rfl, hj, hk, hk1, LZ, HM⟩ := hrel
        have hgw : gO < wr.heap.size := Nat.lt_of_lt_of_le hgO LZ.size
        have OZ := own_on' OO LZ (Nat.le_refl _)
        by_cases hkn : k < ps.length
        · have x0 := own_cells OZ (k * 2) _ (wcells_at ps k hkn).1
          have x1 := own_cells OZ (k * 2 + 1) _ (wcells_at ps k hkn).2
          have y0 := own_cells OZ (j * 2) _ (wcells_at ps j hj).1
          have y1 := own_cells OZ (j * 2 + 1) _ (wcells_at ps j hj).2
          have hpk := HPP.out ps[k] (List.getElem_mem hkn)
          have hpj := HPP.out ps[j] (List.getElem_mem hj)
          have bk := HS.out.bd ps[k].o (List.mem_map.2 ⟨ps[k], List.getElem_mem hkn, rfl⟩)
          have bj := HS.out.bd ps[j].o (List.mem_map.2 ⟨ps[j], List.getElem_mem hj, rfl⟩)
          have HB : Hid (∀ _ : Unit, _) := fun _ => before_val _ _ ps[k].o ps[j].o wr.drew (by omega) (by omega) ((own_ws hpk.1 hpk.2.1).on LZ.drew) ((own_ws hpj.1 hpj.2.1).on LZ.drew)
          have HY : Hid (ahead ps[k].o ps[j].o = true → ∃ hj : k < ps.length, ∀ i (h : i < ps.length), i < k + 1 → le ps[k].o ps[i].o) := fun h => ⟨hkn, fun i hi hik => by
            by_cases e : i = k
            · subst e; exact le_refl _
            · exact le_trans (le_of_ahead h) (HM.out.2 i hi (by omega))⟩
          have HN : Hid (ahead ps[k].o ps[j].o = false → ∃ hj : j < ps.length, ∀ i (h : i < ps.length), i < k + 1 → le ps[j].o ps[i].o) := fun h => ⟨hj, fun i hi hik => by
            by_cases e : i = k
            · subst e; exact h
            · exact HM.out.2 i hi (by omega)⟩
          clear hpk hpj bk bj HM
          generalize ahead ps[k].o ps[j].o = aB at *
          generalize ps[k] = pk at *
          generalize ps[j] = pj at *
          go_wp2
          refine wp_region_held_drew (S := (fun w' => w'.cell? ⟨gO, k * 2, none⟩ = some pk.v ∧ w'.cell? ⟨gO, k * 2 + 1, none⟩ = some (.int .i64 pk.o.c) ∧ w'.cell? ⟨gO, j * 2, none⟩ = some pj.v ∧ w'.cell? ⟨gO, j * 2 + 1, none⟩ = some (.int .i64 pj.o.c))) (by kernel_rfl) ?_ (fun hHeld => ?_)
          · exact ⟨x0, x1, y0, y1⟩
          refine wpAnyH_take (i := 0) (v := .slice (some ⟨gO, 0, none⟩) ps.length cO) rfl (by kernel_rfl) (by kernel_rfl) (by kernel_rfl) (fun _ _ _ h => h) (Or.inl ⟨by kernel_rfl, fun w hSw => by first | (go_simp; done) | (dsimp only at hSw; obtain ⟨hS0, hS1, hS2, hS3⟩ := hSw; go_simp; done) | rfl⟩) (by assumption) ?_
          simp only [Act.put, List.getElem_toArray, List.getElem_cons_succ, List.getElem_cons_zero, List.setIfInBounds_toArray, List.set_cons_succ, List.set_cons_zero]
          refine wpAnyH_take (i := 1) (v := .int .i64 k) rfl (by kernel_rfl) (by kernel_rfl) (by kernel_rfl) (fun _ _ _ h => h) (Or.inl ⟨by kernel_rfl, fun w hSw => by first | (go_simp; done) | (dsimp only at hSw; obtain ⟨hS0, hS1, hS2, hS3⟩ := hSw; go_simp; done) | rfl⟩) (by assumption) ?_
          simp only [Act.put, List.getElem_toArray, List.getElem_cons_succ, List.getElem_cons_zero, List.setIfInBounds_toArray, List.set_cons_succ, List.set_cons_zero]
          refine wpAnyH_take (i := 2) (v := .pointer (some ⟨gO, k * 2, none⟩)) rfl (by kernel_rfl) (by kernel_rfl) (by kernel_rfl) (fun _ _ _ h => h) (Or.inl ⟨by kernel_rfl, fun w hSw => by first | (go_simp; done) | (dsimp only at hSw; obtain ⟨hS0, hS1, hS2, hS3⟩ := hSw; go_simp; done) | rfl⟩) (by assumption) ?_
          simp only [Act.put, List.getElem_toArray, List.getElem_cons_succ, List.getElem_cons_zero, List.setIfInBounds_toArray, List.set_cons_succ, List.set_cons_zero]
          refine wpAnyH_take (i := 3) (v := .agg #[pk.v, .int .i64 pk.o.c]) rfl (by kernel_rfl) (by kernel_rfl) (by kernel_rfl) (fun _ _ _ h => h) (Or.inl ⟨by kernel_rfl, fun w hSw => by first | (go_simp; done) | (dsimp only at hSw; obtain ⟨hS0, hS1, hS2, hS3⟩ := hSw; go_simp; done) | rfl⟩) (by assumption) ?_
          simp only [Act.put, List.getElem_toArray, List.getElem_cons_succ, List.getElem_cons_zero, List.setIfInBounds_toArray, List.set_cons_succ, List.set_cons_zero]
          refine wpAnyH_take (i := 4) (v := .slice (some ⟨gO, 0, none⟩) ps.length cO) rfl (by kernel_rfl) (by kernel_rfl) (by kernel_rfl) (fun _ _ _ h => h) (Or.inl ⟨by kernel_rfl, fun w hSw => by first | (go_simp; done) | (dsimp only at hSw; obtain ⟨hS0, hS1, hS2, hS3⟩ := hSw; go_simp; done) | rfl⟩) (by assumption) ?_
          simp only [Act.put, List.getElem_toArray, List.getElem_cons_succ, List.getElem_cons_zero, List.setIfInBounds_toArray, List.set_cons_succ, List.set_cons_zero]
          refine wpAnyH_take (i := 5) (v := .int .i64 j) rfl (by kernel_rfl) (by kernel_rfl) (by kernel_rfl) (fun _ _ _ h => h) (Or.inl ⟨by kernel_rfl, fun w hSw => by first | (go_simp; done) | (dsimp only at hSw; obtain ⟨hS0, hS1, hS2, hS3⟩ := hSw; go_simp; done) | rfl⟩) (by assumption) ?_
          simp only [Act.put, List.getElem_toArray, List.getElem_cons_succ, List.getElem_cons_zero, List.setIfInBounds_toArray, List.set_cons_succ, List.set_cons_zero]
          refine wpAnyH_take (i := 6) (v := .pointer (some ⟨gO, j * 2, none⟩)) rfl (by kernel_rfl) (by kernel_rfl) (by kernel_rfl) (fun _ _ _ h => h) (Or.inl ⟨by kernel_rfl, fun w hSw => by first | (go_simp; done) | (dsimp only at hSw; obtain ⟨hS0, hS1, hS2, hS3⟩ := hSw; go_simp; done) | rfl⟩) (by assumption) ?_
          simp only [Act.put, List.getElem_toArray, List.getElem_cons_succ, List.getElem_cons_zero, List.setIfInBounds_toArray, List.set_cons_succ, List.set_cons_zero]
          refine wpAnyH_take (i := 7) (v := .agg #[pj.v, .int .i64 pj.o.c]) rfl (by kernel_rfl) (by kernel_rfl) (by kernel_rfl) (fun _ _ _ h => h) (Or.inl ⟨by kernel_rfl, fun w hSw => by first | (go_simp; done) | (dsimp only at hSw; obtain ⟨hS0, hS1, hS2, hS3⟩ := hSw; go_simp; done) | rfl⟩) (by assumption) ?_
          simp only [Act.put, List.getElem_toArray, List.getElem_cons_succ, List.getElem_cons_zero, List.setIfInBounds_toArray, List.set_cons_succ, List.set_cons_zero]
          refine wpAnyH_ready (rs := [8]) (by kernel_rfl) (by simp) ?_
          refine AllReadyH.cons rfl (fun K hK => ?_) AllReadyH.nil
          go_simp
          go_wp2_with (go_at_call 94; refine (HB.out ()).mono ?_; rintro e w3 ⟨rfl, L3⟩; have M3 : Below wr.heap.size wr w3 := ((Below.refl _ _).drew).trans L3)
          refine hK.out _ _ ?_ (fun hHeld2 => ?_)
          · first | exact hHeld | exact ⟨(M3.cell (p := ⟨gO, k * 2, none⟩) hgw).trans x0, (M3.cell (p := ⟨gO, k * 2 + 1, none⟩) hgw).trans x1, (M3.cell (p := ⟨gO, j * 2, none⟩) hgw).trans y0, (M3.cell (p := ⟨gO, j * 2 + 1, none⟩) hgw).trans y1⟩
          clear hK K hHeld
          have hHeld := hHeld2
          clear hHeld2
          refine wpAnyH_done (by kernel_rfl) ?_ _
          clear hHeld x0 x1 y0 y1
          have L4 : Below W0.heap.size W0 w3 := join_below LZ M3
          cases aB
          · have HT : Hid (_) := HN.out rfl
            go_wp2
            go_roundw
            case rel => exact ⟨j, k + 1, rfl, by go_num, hj, by omega, by omega, L4, HT⟩
            case measure => simp [intOf]; omega
          · have HT : Hid (_) := HY.out rfl
            go_wp2
            go_roundw
            case rel => exact ⟨k, k + 1, rfl, by go_num, hkn, by omega, by omega, L4, HT⟩
            case measure => simp [intOf]; omega
        · have hkk : k = ps.length := by omega
          have HMin : Hid (∃ hj : j < ps.length, ∀ i (h : i < ps.length), le ps[j].o ps[i].o) := ⟨hj, fun i hi => HM.out.2 i hi (by omega)⟩
          clear HM
          have hcO := own_cap OO
          unfold maxLen at hcO
          have x0 := own_cells OZ (j * 2) _ (wcells_at ps j hj).1
          have x1 := own_cells OZ (j * 2 + 1) _ (wcells_at ps j hj).2
          have hpj := HPP.out ps[j] (List.getElem_mem hj)
          have bj := HS.out.bd ps[j].o (List.mem_map.2 ⟨ps[j], List.getElem_mem hj, rfl⟩)
          have hjo : (ps.map Pw.o)[j]'(by simpa using hj) = ps[j].o := by simp
          have HMl : Aside (∀ o ∈ ps.map Pw.o, le ps[j].o o) := fun o ho => by
            obtain ⟨p, hp, rfl⟩ := List.mem_map.1 ho
            obtain ⟨i, hi, rfl⟩ := List.getElem_of_mem hp
            exact HMin.out.2 i hi
          have HCut : Aside (cutAt (ps.map Pw.o) j = (ps.take j ++ ps.drop (j + 1)).map Pw.o) := by
            show _ = _
            unfold cutAt
            rw [List.map_append, List.map_take, List.map_drop]
          have HSk : Aside (endW ps[j].o ∈ d → JSt E a ((ps.take j ++ ps.drop (j + 1)).map Pw.o) d G) := fun h => by
            have := HS.out.skip (k := j) (by simpa using hj) (by rw [hjo]; exact h)
            rwa [HCut.out] at this
          have HNx : Aside (endW ps[j].o ∉ d → JSt E a (pushF (d ++ [endW ps[j].o]) ps[j].o ((ps.take j ++ ps.drop (j + 1)).map Pw.o) E) (d ++ [endW ps[j].o]) (setG G (endW ps[j].o) ps[j].o)) := fun h => by
            have := HS.out.next HE.out (k := j) (by simpa using hj) (by rw [hjo]; exact HMl.out) (by rw [hjo]; exact h)
            rwa [hjo, HCut.out] at this
          have HPop : Aside (endW ps[j].o ∉ d → isBest E a (endW ps[j].o) ps[j].o) := fun h => HS.out.pop HE.out (List.mem_map.2 ⟨ps[j], List.getElem_mem hj, rfl⟩) HMl.out h
          have NX := new_below wr (.cells #[ps[j].v, .int .i64 ps[j].o.c] 109)
          have mX := heap_new wr (.cells #[ps[j].v, .int .i64 ps[j].o.c] 109)
          obtain ⟨BW, hBW⟩ : ∃ BW, wr.heap.size = BW := ⟨_, rfl⟩
          have PJ := own_on' hpj.1 LZ (Nat.le_refl _)
          have hpn := hpj.2.1
          have hpd : (Value.slice aD d.length cD).ownBlock ≠ some ps[j].g := hpj.2.2
          obtain ⟨q, hq⟩ : ∃ q, j + 1 = q := ⟨_, rfl⟩
          rw [hq] at HSk HNx HCut
          have HJQ : Hid (j + 1 = q ∧ j < ps.length) := ⟨hq, hj⟩
          have i4 : (j : Int) + 1 = (q : Int) := by omega
          have i5 : IntKind.i64.wrap (q : Int) = (q : Int) := by rw [IntKind.wrap_i64]; omega
          have hqn : q ≤ ps.length := by omega
          have hqc : q ≤ cO := by omega
          have hjc : j ≤ cO := by omega
          have hc0 : ¬ cO = 0 := by omega
          obtain ⟨o2, ho2⟩ : ∃ o2, o2 = if cO = q then 0 else q * 2 := ⟨_, rfl⟩
          have HO2 : Hid (o2 = if cO = q then 0 else q * 2) := ho2
          have HSuf : Hid (∀ i u, (wcells (ps.drop q))[i]? = some u → (wcells ps)[o2 + i]? = some u) := by
            intro i u hu
            by_cases h : cO = q
            · have e : ps.drop q = [] := List.drop_eq_nil_of_le (by omega)
              rw [e] at hu
              simp [wcells] at hu
            · rw [ho2, if_neg h]
              exact wcells_suf hu
          clear ho2
          clear HMin HMl HS hjo HCut hpj OO
          generalize ps[j] = m at *
          have NX : Below wr.heap.size wr (wr.alloc (.cells #[.slice (some ⟨m.g, 0, none⟩) m.o.s.length m.cap, .int .i64 m.o.c] 109)) := NX
          have mX : (wr.alloc (.cells #[.slice (some ⟨m.g, 0, none⟩) m.o.s.length m.cap, .int .i64 m.o.c] 109)).heap[BW]? = some (.cells #[.slice (some ⟨m.g, 0, none⟩) m.o.s.length m.cap, .int .i64 m.o.c] 109) := by rw [← hBW]; exact mX
          go_wp2
          generalize wr.alloc (.cells #[.slice (some ⟨m.g, 0, none⟩) m.o.s.length m.cap, .int .i64 m.o.c] 109) = X at *
          have hXB : BW < X.heap.size := lt_of mX
          have LX : Below W0.heap.size W0 X := join_below LZ NX
          have OX := own_on' OZ NX (Nat.le_refl _)
          have hW0s : w.heap.size < W0.heap.size := lt_of hR
          have hbX : w.heap.size + 1 ≤ X.heap.size := by have := LX.size; omega
          have hgX : gO < X.heap.size := Nat.lt_of_lt_of_le hgw NX.size
          have KY : Below X.heap.size X (X.alloc (.cells #[] 109)).drew := (new_below X _).drew
          have OE : (X.alloc (.cells #[] 109)).drew.ownsRow X.heap.size 109 2 (.slice (some ⟨X.heap.size, 0, none⟩) 0 0) 0 [] := own_empty X X.heap.size 109 2 (Nat.le_refl _)
          have OY := own_on' OX KY (Nat.le_refl _)
          obtain ⟨i0, hi, hz0, hz1, hz2⟩ := info_of info_lw
          have PX := own_on' (own_on' PJ NX (by omega)) (Below.refl X.heap.size X) (Nat.le_refl _)
          clear OZ x0 x1 LZ NX PJ
          refine wp_region_held_drew (S := (fun _ => True)) (by kernel_rfl) ?_ (fun hHeld => ?_)
          · trivial
          refine wpAnyH_take (i := 1) (v := .slice (some ⟨gO, 0, none⟩) ps.length cO) rfl (by kernel_rfl) (by kernel_rfl) (by kernel_rfl) (fun _ _ _ h => h) (Or.inl ⟨by kernel_rfl, fun w hSw => by first | (go_simp; done) | (dsimp only at hSw; obtain ⟨hS0⟩ := hSw; go_simp; done) | rfl⟩) (by assumption) ?_
          simp only [Act.put, List.getElem_toArray, List.getElem_cons_succ, List.getElem_cons_zero, List.setIfInBounds_toArray, List.set_cons_succ, List.set_cons_zero]
          refine wpAnyH_take (i := 2) (v := .int .i64 j) rfl (by kernel_rfl) (by kernel_rfl) (by kernel_rfl) (fun _ _ _ h => h) (Or.inl ⟨by kernel_rfl, fun w hSw => by first | (go_simp; done) | (dsimp only at hSw; obtain ⟨hS0⟩ := hSw; go_simp; done) | rfl⟩) (by assumption) ?_
          simp only [Act.put, List.getElem_toArray, List.getElem_cons_succ, List.getElem_cons_zero, List.setIfInBounds_toArray, List.set_cons_succ, List.set_cons_zero]
          refine wpAnyH_take (i := 3) (v := .slice (some ⟨gO, 0, none⟩) j cO) rfl (by kernel_rfl) (by kernel_rfl) (by kernel_rfl) (fun _ _ _ h => h) (Or.inl ⟨by kernel_rfl, fun w hSw => by first | (go_simp; done) | (dsimp only at hSw; obtain ⟨hS0⟩ := hSw; go_simp; done) | rfl⟩) (by assumption) ?_
          simp only [Act.put, List.getElem_toArray, List.getElem_cons_succ, List.getElem_cons_zero, List.setIfInBounds_toArray, List.set_cons_succ, List.set_cons_zero]
          refine wpAnyH_take (i := 5) (v := .slice (some ⟨gO, 0, none⟩) ps.length cO) rfl (by kernel_rfl) (by kernel_rfl) (by kernel_rfl) (fun _ _ _ h => h) (Or.inl ⟨by kernel_rfl, fun w hSw => by first | (go_simp; done) | (dsimp only at hSw; obtain ⟨hS0⟩ := hSw; go_simp; done) | rfl⟩) (by assumption) ?_
          simp only [Act.put, List.getElem_toArray, List.getElem_cons_succ, List.getElem_cons_zero, List.setIfInBounds_toArray, List.set_cons_succ, List.set_cons_zero]
          refine wpAnyH_take (i := 6) (v := .int .i64 j) rfl (by kernel_rfl) (by kernel_rfl) (by kernel_rfl) (fun _ _ _ h => h) (Or.inl ⟨by kernel_rfl, fun w hSw => by first | (go_simp; done) | (dsimp only at hSw; obtain ⟨hS0⟩ := hSw; go_simp; done) | rfl⟩) (by assumption) ?_
          simp only [Act.put, List.getElem_toArray, List.getElem_cons_succ, List.getElem_cons_zero, List.setIfInBounds_toArray, List.set_cons_succ, List.set_cons_zero]
          refine wpAnyH_take (i := 7) (v := .int .i64 q) rfl (by kernel_rfl) (by kernel_rfl) (by kernel_rfl) (fun _ _ _ h => h) (Or.inl ⟨by kernel_rfl, fun w hSw => by first | (go_simp; done) | (dsimp only at hSw; obtain ⟨hS0⟩ := hSw; go_simp; done) | rfl⟩) (by assumption) ?_
          simp only [Act.put, List.getElem_toArray, List.getElem_cons_succ, List.getElem_cons_zero, List.setIfInBounds_toArray, List.set_cons_succ, List.set_cons_zero]
          refine wpAnyH_take (i := 8) (v := .slice (some ⟨gO, o2, none⟩) (ps.length - q) (cO - q)) rfl (by kernel_rfl) (by kernel_rfl) (by kernel_rfl) (fun _ _ _ h => h) (Or.inl ⟨by kernel_rfl, fun w hSw => by first | (have hqq := HO2.out; by_cases h : cO = q <;> simp only [h, if_true, if_false] at hqq <;> subst hqq <;> go_simp <;> done) | (go_simp; done) | (dsimp only at hSw; obtain ⟨hS0⟩ := hSw; go_simp; done) | rfl⟩) (by assumption) ?_
          simp only [Act.put, List.getElem_toArray, List.getElem_cons_succ, List.getElem_cons_zero, List.setIfInBounds_toArray, List.set_cons_succ, List.set_cons_zero]
          refine wpAnyH_ready (rs := [0]) (by kernel_rfl) (by simp) ?_
          refine AllReadyH.cons rfl (fun K hK => ?_) AllReadyH.nil
          go_simp
          refine hK.out _ _ ?_ (fun hHeld2 => ?_)
          · trivial
          clear hK K hHeld
          have hHeld := hHeld2
          clear hHeld2
          refine wpAnyH_ready (rs := [4]) (by kernel_rfl) (by simp) ?_
          refine AllReadyH.cons rfl (fun K hK => ?_) AllReadyH.nil
          rw [if_pos (by kernel_rfl)]
          refine wp_append_at _ _ 144 rfl X.heap.size 109 i0 (.agg #[.slice none 0 0, .int .i64 0]) 2 32 Try.underlying144 hi hz0 hz1 hz2 rfl (by omega) _ 0 [] rfl OE _ j cO (wcells (ps.take j)) rfl (by rw [wcells_length, List.length_take]; omega) (fun i u hu => by rw [add0]; exact own_cells OY i u (wcells_pre hu)) (wcells_one _) (by unfold maxLen; omega) (by omega) (by have := KY.size; omega) ?_
          intro v4 w4 O4 G4 hl4
          have K4 : Below X.heap.size X w4 := KY.grown G4 KY.size (fun k hk => by cases hk; exact Nat.le_refl _)
          have OG4 := own_kept OY G4 (fun g hg h => by cases hg; cases h; exact absurd hgX (Nat.lt_irrefl _))
          try simp only [Act.put, List.getElem_toArray, List.getElem_cons_succ, List.getElem_cons_zero, List.setIfInBounds_toArray, List.set_cons_succ, List.set_cons_zero]
          refine hK.out _ _ ?_ (fun hHeld2 => ?_)
          · trivial
          clear hK K hHeld
          have hHeld := hHeld2
          clear hHeld2
          refine wpAnyH_ready (rs := [9]) (by kernel_rfl) (by simp) ?_
          refine AllReadyH.cons rfl (fun K hK => ?_) AllReadyH.nil
          rw [if_pos (by kernel_rfl)]
          refine wp_append_at _ _ 144 rfl X.heap.size 109 i0 (.agg #[.slice none 0 0, .int .i64 0]) 2 32 Try.underlying144 hi hz0 hz1 hz2 rfl (by omega) _ (0 + j) ([] ++ wcells (ps.take j)) rfl O4 _ (ps.length - q) (cO - q) (wcells (ps.drop q)) rfl (by rw [wcells_length, List.length_drop]) (fun i u hu => by rw [addn]; exact own_cells OG4 (o2 + i) u (HSuf.out i u hu)) (wcells_one _) (by unfold maxLen; omega) (by omega) (by have := K4.size; omega) ?_
          intro v9 w9 O9 G9 hl9
          have K9 : Below X.heap.size X w9 := K4.grown G9 K4.size (fun k hk => (own_blt O4 hk).1)
          try simp only [Act.put, List.getElem_toArray, List.getElem_cons_succ, List.getElem_cons_zero, List.setIfInBounds_toArray, List.set_cons_succ, List.set_cons_zero]
          refine hK.out _ _ ?_ (fun hHeld2 => ?_)
          · trivial
          clear hK K hHeld
          have hHeld := hHeld2
          clear hHeld2
          refine wpAnyH_ready (rs := [10]) (by kernel_rfl) (by simp) ?_
          refine AllReadyH.cons rfl (fun K hK => ?_) AllReadyH.nil
          go_simp
          refine hK.out _ _ ?_ (fun hHeld2 => ?_)
          · trivial
          clear hK K hHeld
          have hHeld := hHeld2
          clear hHeld2
          refine wpAnyH_done (by kernel_rfl) ?_ _
          clear hHeld
          have HPN : Hid (ps.take j ++ ps.drop q = ps.take j ++ ps.drop q) := rfl
          obtain ⟨psn, hpsn⟩ : ∃ psn, ps.take j ++ ps.drop q = psn := ⟨_, rfl⟩
          have hpnl : psn.length + 1 = ps.length := by
            rw [← hpsn, List.length_append, List.length_take, List.length_drop]
            have := HJQ.out
            omega
          have O9 : w9.ownsRow X.heap.size 109 2 v9 psn.length (wcells psn) := by
            have e1 : psn.length = 0 + j + (ps.length - q) := by have := HJQ.out; omega
            rw [e1, ← hpsn, wcells_append]
            simpa using O9
          rw [hpsn] at HSk HNx
          have L9 : Below W0.heap.size W0 w9 := join_below LX K9
          have LW9 : Below w.heap.size w w9 := join_below LR L9
          have m9 := kept K9 (lt_of mX) mX
          have hmgX : m.g < X.heap.size := (own_blt PX (g := m.g) rfl).2
          have P9 := own_on' PX K9 (Nat.le_refl _)
          have D9 := own_on' OD L9 (Nat.le_refl _)
          have I9 := ID.on L9
          have HQ9 : Aside (∀ p ∈ psn, w9.ownsRow (w.heap.size + 1) 3 1 p.v p.o.s.length (zc p.o.s) ∧ 0 < p.o.s.length ∧ (Value.slice aD d.length cD).ownBlock ≠ some p.g) := by
            intro p hp
            have hp' : p ∈ ps := by
              rw [← hpsn] at hp
              rcases List.mem_append.1 hp with h | h
              · exact List.mem_of_mem_take h
              · exact List.mem_of_mem_drop h
            obtain ⟨h1, h2, h3⟩ := HPP.out p hp'
            exact ⟨own_on' h1 L9 (Nat.le_refl _), h2, h3⟩
          have hR9 := kept L9 (lt_of hR) hR
          obtain ⟨nn, hnn⟩ : ∃ nn, m.o.s.length = nn + 1 := ⟨m.o.s.length - 1, by omega⟩
          have hEe := end_at hnn
          have cend : w9.cell? ⟨m.g, nn, none⟩ = some (.int .i64 (endW m.o)) := by
            refine own_cells P9 nn _ ?_
            rw [hEe]
            simp [zc, List.getElem?_eq_getElem (by omega : nn < m.o.s.length)]
          have hx : (m.o.s.length : Int) - 1 = (nn : Int) := by omega
          have h1n : nn < m.o.s.length := by omega
          have b0 : w9.cell? ⟨BW, 0, none⟩ = some (.slice (some ⟨m.g, 0, none⟩) m.o.s.length m.cap) := cell_at m9 0
          have b1 : w9.cell? ⟨BW, 1, none⟩ = some (.int .i64 m.o.c) := cell_at m9 1
          clear HPN O4 G4 hl4 K4 OG4 G9 hl9 OX OY OE KY hEe hnn PX mX hi hz0 hz1 hz2 HSuf HO2 i4 i5 hqn hqc hjc hc0 HPP ID OD hR
          obtain ⟨yy, hyy⟩ : ∃ yy, endW m.o = yy := ⟨_, rfl⟩
          rw [hyy] at cend HSk HNx HPop
          have HYY : Hid (endW m.o = yy) := hyy
          clear hyy
          by_cases hyb : yy = b
          · have HBst : Hid (isBest E a b m.o) := by
              have := HPop.out (by rw [hyb]; exact HG.out.1)
              rwa [hyb] at this
            have HBd : Hid (m.o.s.length ≤ 402 ∧ 0 ≤ m.o.c ∧ m.o.c ≤ 402000000) := ⟨by omega, bj.2.1, by omega⟩
            have e2 : (yy == b) = true := beq_iff_eq.2 hyb
            have c0 : w9.cell? ⟨w.heap.size, 0, none⟩ = some (.slice none 0 0) := cell_at hR9 0
            have c1 : w9.cell? ⟨w.heap.size, 1, none⟩ = some (.int .i64 0) := cell_at hR9 1
            have f0 : w9.frozen? ⟨w.heap.size, 0, none⟩ = false := frozen_at hR9 0
            have f1 : w9.frozen? ⟨w.heap.size, 1, none⟩ = false := frozen_at hR9 1
            have LF : Below w.heap.size w ((w9.setCell ⟨w.heap.size, 0, none⟩ (.slice (some ⟨m.g, 0, none⟩) m.o.s.length m.cap)).setCell ⟨w.heap.size, 1, none⟩ (.int .i64 m.o.c)) := (LW9.setCell (p := ⟨w.heap.size, 0, none⟩) (Nat.le_refl _) _).setCell (p := ⟨w.heap.size, 1, none⟩) (Nat.le_refl _) _
            have HI : Hid (Ints ((w9.setCell ⟨w.heap.size, 0, none⟩ (.slice (some ⟨m.g, 0, none⟩) m.o.s.length m.cap)).setCell ⟨w.heap.size, 1, none⟩ (.int .i64 m.o.c)) (some ⟨m.g, 0, none⟩) m.o.s) := by
              obtain ⟨hgb, hgl⟩ := own_blt P9 (g := m.g) rfl
              refine Or.inr ⟨m.g, 0, rfl, by rw [World.size_setCell, World.size_setCell]; exact hgl, fun i hi => ?_⟩
              rw [Nat.zero_add, World.cell?_setCell_other _ _ _ _ (by first | (simp; done) | (simp; omega)), World.cell?_setCell_other _ _ _ _ (by first | (simp; done) | (simp; omega))]
              exact own_cells P9 i _ (by simp [zc, List.getElem?_eq_getElem hi])
            clear hyb HSk HNx HPop HG HQ9 O9 D9 I9 P9 m9 hR9
            go_wp2
            refine bodyPost_ret (v := .tuple #[.agg #[.slice (some ⟨m.g, 0, none⟩) m.o.s.length m.cap, .int .i64 m.o.c], .bool true]) (by simp [results, Try.results70, go_sem, c0, c1]) rfl ?_
            exact ⟨Or.inl ⟨m.o, m.g, m.cap, HBst.out, HBd.out, rfl, HI.out⟩, LF⟩
          · have e2 : (yy == b) = false := beq_eq_false_iff_ne.2 hyb
            have HYB : Aside (yy ≠ b) := hyb
            have HHas : Hid (∀ _ : Unit, _) := fun _ => has_val aD d cD yy w9 (by omega) I9
            clear hyb
            go_wp2_with fail
            refine (HHas.out ()).mono ?_
            rintro e w11 ⟨rfl, rfl⟩
            by_cases hmem : yy ∈ d
            · rw [decide_eq_true hmem]
              have HSp2 : Aside (Sp E a b (w.heap.size + 1) (((stn E a).length + 1 - d.length) * 201 + psn.length) w11 v9 (.slice aD d.length cD)) := ⟨psn, d, G, HSk.out hmem, HG.out.1, own_base O9 hbX, D9, HQ9.out, by omega, rfl⟩
              have hgk := HG.out.2
              clear hmem HSk HNx HPop HQ9 HHas b0 b1 cend
              go_wp2
              go_roundg (((stn E a).length + 1 - d.length) * 201 + psn.length)
              case measure => omega
              case rel => exact ⟨LW9, hR9, HSp2⟩
            · rw [decide_eq_false hmem]
              have HJ : Aside (_) := HNx.out hmem
              have HDM : Aside (b ∉ d ++ [yy]) := by
                show _
                have h1 := HG.out.1
                have h2 := HYB.out
                simp
                exact ⟨h1, fun h => h2 h.symm⟩
              clear hmem HSk HNx HPop HHas cend
              obtain ⟨i1, hi1, hy0, hy1, hy2⟩ := info_of Pk.info_int
              have NY := new_below w11 (.cells #[.int .i64 yy] 3)
              have mY := heap_new w11 (.cells #[.int .i64 yy] 3)
              have DY := own_on' D9 NY (Nat.le_refl _)
              have hs11 : X.heap.size ≤ w11.heap.size := K9.size
              have hbY : w.heap.size + 1 ≤ (w11.alloc (.cells #[.int .i64 yy] 3)).heap.size := by have := NY.size; omega
              go_wp2_with (first | (at_builtin; refine wpList_plain rfl fun K hK => ?_; refine wp_append_at _ _ 56 rfl (w.heap.size + 1) 3 i1 (.int .i64 0) 1 8 Try.underlying56 hi1 hy0 hy1 hy2 rfl (by omega) _ d.length (zc d) rfl DY _ 1 1 [.int .i64 yy] rfl rfl (one_at mY) (by simp [Value.oneCell', Value.cells]) (by unfold maxLen; omega) (by omega) hbY ?_; intro vD2 w12 O12 G12 hl12; refine hK _ _ ?_; clear hK K) | go_in)
              have D12 : w12.ownsRow (w.heap.size + 1) 3 1 vD2 (d ++ [yy]).length (zc (d ++ [yy])) := by
                have e1 : (d ++ [yy]).length = d.length + 1 := by simp
                have e2 : zc (d ++ [yy]) = zc d ++ [.int .i64 yy] := by simp [zc]
                rw [e1, e2]
                exact O12
              have hDb : ∀ g, (Value.slice aD d.length cD).ownBlock = some g → w.heap.size + 1 ≤ g := fun g hg => (own_blt D9 hg).1
              have OQ0 := own_kept (own_on' O9 NY (Nat.le_refl _)) G12 (rows_apart (own_on' O9 NY (Nat.le_refl _)) DY (by decide))
              have P12 := own_kept (own_on' P9 NY (Nat.le_refl _)) G12 (fun g hg => by cases hg; exact hpd)
              have m12 := (G12.block BW (Nat.lt_of_lt_of_le (lt_of m9) NY.size) (fun h => Pk.own_ne' D9 m9 (by decide) h.symm)).trans (kept NY (lt_of m9) m9)
              have hR12 := (G12.block w.heap.size (Nat.lt_of_lt_of_le (lt_of hR9) NY.size) (fun h => by have := hDb _ h.symm; omega)).trans (kept NY (lt_of hR9) hR9)
              have LW12 : Below w.heap.size w w12 := (join_below LW9 NY).grown G12 (by have := (join_below LW9 NY).size; omega) (fun g hg => by have := hDb g hg; omega)
              have hs12 : X.heap.size ≤ w12.heap.size := Nat.le_trans hs11 (Nat.le_trans NY.size G12.size)
              have HQ12 : Aside (∀ p ∈ psn, w12.ownsRow (w.heap.size + 1) 3 1 p.v p.o.s.length (zc p.o.s) ∧ 0 < p.o.s.length ∧ vD2.ownBlock ≠ some p.g) := by
                intro p hp
                obtain ⟨h1, h2, h3⟩ := HQ9.out p hp
                refine ⟨own_kept (own_on' h1 NY (Nat.le_refl _)) G12 (fun g hg => by cases hg; exact h3), h2, fun h => ?_⟩
                rcases hl12 with h4 | h4
                · rw [h4] at h
                  exact h3 h
                · rw [h4] at h
                  have h5 := (own_blt h1 (g := p.g) rfl).2
                  have h6 := Option.some.inj h
                  have := NY.size
                  omega
              have HD2 : Hid ((d ++ [yy]).length = d.length + 1) := by show _ = _; simp
              generalize d ++ [yy] = d2 at *
              obtain ⟨aD2, cD2, rfl, -⟩ := own_ints D12
              clear O12 G12 hl12 DY mY hbY NY D9 I9 P9 O9 HQ9 m9 hR9 LW9 b0 b1 hs11 hDb hpd
              obtain ⟨W2, hW2⟩ : ∃ W2, W2 = w12 := ⟨_, rfl⟩
              subst hW2
              go_wp2
              go_loopw [8, 14] (fun s8 s14 wz => ∃ (k : Nat) (qs : List Pw), s14 = .int .i64 k ∧ k ≤ E.length ∧ Below X.heap.size W2 wz ∧ Hid (wz.ownsRow X.heap.size 109 2 s8 qs.length (wcells qs)) ∧ Hid (wz.ownsRow (w.heap.size + 1) 3 1 (.slice aD2 d2.length cD2) d2.length (zc d2)) ∧ Aside (∀ p ∈ qs, wz.ownsRow (w.heap.size + 1) 3 1 p.v p.o.s.length (zc p.o.s) ∧ 0 < p.o.s.length ∧ (Value.slice aD2 d2.length cD2).ownBlock ≠ some p.g) ∧ Aside (qs.map Pw.o = pushF d2 m.o (psn.map Pw.o) (E.take k)) ∧ qs.length ≤ psn.length + k) (fun _ s14 _ => E.length - (intOf s14).toNat)
              case atStart => exact ⟨0, psn, rfl, by omega, Below.refl _ _, OQ0, D12, HQ12.out, rfl, by omega⟩
              case round =>
                obtain ⟨k3, qs, rfl, hk3, KZ, OQ, DQ, HQ, HPu, hql⟩ := hrel
                have LWz : Below w.heap.size w wr := LW12.trans (KZ.mono (by omega))
                have hsz : X.heap.size ≤ wr.heap.size := Nat.le_trans hs12 KZ.size
                by_cases hkE : k3 < E.length
                · obtain ⟨be, oe, hab, hltE, c0, c1, c2⟩ := (IE.on LWz).at k3 hkE
                  subst hab
                  have hpE := HE.out E[k3] (List.getElem_mem hkE)
                  have HST : Aside (pushF d2 m.o (psn.map Pw.o) (E.take (k3 + 1)) = if oth E[k3] yy ≠ 0 ∧ oth E[k3] yy ∉ d2 then qs.map Pw.o ++ [ovr m.o E[k3].co (oth E[k3] yy)] else qs.map Pw.o) := by
                    have h1 := push_take d2 m.o (psn.map Pw.o) E k3 hkE
                    rw [← HPu.out, pushS, HYY.out] at h1
                    exact h1
                  have hpc := ed_is hpE
                  clear HPu
                  generalize E[k3] = p at *
                  have HOt : Hid (∀ w, _) := fun w => other_val p yy w
                  generalize oth p yy = q2 at *
                  go_wp2_with fail
                  refine (HOt.out _).mono ?_
                  rintro e w14 ⟨rfl, L14⟩
                  have OQ14 := own_on' OQ.out L14 (Nat.le_refl _)
                  have DQ14 := own_on' DQ.out L14 (Nat.le_refl _)
                  have KZ14 : Below X.heap.size W2 w14 := KZ.trans (L14.mono hsz)
                  have HQ14 : Aside (∀ p ∈ qs, w14.ownsRow (w.heap.size + 1) 3 1 p.v p.o.s.length (zc p.o.s) ∧ 0 < p.o.s.length ∧ (Value.slice aD2 d2.length cD2).ownBlock ≠ some p.g) := fun p hp => ⟨own_on' (HQ.out p hp).1 L14 (Nat.le_refl _), (HQ.out p hp).2⟩
                  have cel : w14.cell? ⟨be, oe + k3 * 3 + 2, none⟩ = some (.int .i64 p.co) := (L14.cell (p := ⟨be, oe + k3 * 3 + 2, none⟩) hltE).trans c2
                  have hlt14 : be < w14.heap.size := Nat.lt_of_lt_of_le hltE L14.size
                  have hsz14 : X.heap.size ≤ w14.heap.size := Nat.le_trans hsz L14.size
                  clear OQ DQ HQ c0 c1 c2 HOt hltE
                  by_cases hq0 : q2 = 0
                  · have e1 : (q2 != 0) = false := by simp [hq0]
                    have HT2 : Aside (qs.map Pw.o = pushF d2 m.o (psn.map Pw.o) (E.take (k3 + 1))) := by
                      have h1 := HST.out
                      rw [if_neg (fun h => h.1 hq0)] at h1
                      exact h1.symm
                    clear hq0 HST
                    go_wp2
                    go_roundw
                    case rel => exact ⟨k3 + 1, qs, by go_num, by omega, KZ14, OQ14, DQ14, HQ14, HT2, by omega⟩
                    case measure => simp [intOf]; omega
                  · have e1 : (q2 != 0) = true := by simp [hq0]
                    have ID14 : Ints w14 aD2 d2 := by
                      obtain ⟨a', c', hv', h'⟩ := own_ints DQ14
                      simp only [Value.slice.injEq] at hv'
                      rw [hv'.1]
                      exact h'
                    have hd2l : d2.length ≤ 1000 := by have := HD2.out; omega
                    have HHas : Hid (∀ _ : Unit, _) := fun _ => has_val aD2 d2 cD2 q2 w14 (by omega) ID14
                    go_wp2_with fail
                    refine (HHas.out ()).mono ?_
                    rintro e w15 ⟨rfl, rfl⟩
                    by_cases hmem : q2 ∈ d2
                    · rw [decide_eq_true hmem]
                      have HT2 : Aside (qs.map Pw.o = pushF d2 m.o (psn.map Pw.o) (E.take (k3 + 1))) := by
                        have h1 := HST.out
                        rw [if_neg (fun h => h.2 hmem)] at h1
                        exact h1.symm
                      clear hmem HST HHas
                      go_wp2
                      go_roundw
                      case rel => exact ⟨k3 + 1, qs, by go_num, by omega, KZ14, OQ14, DQ14, HQ14, HT2, by omega⟩
                      case measure => simp [intOf]; omega
                    · rw [decide_eq_false hmem]
                      have HT2 : Aside (pushF d2 m.o (psn.map Pw.o) (E.take (k3 + 1)) = qs.map Pw.o ++ [ovr m.o p.co q2]) := by
                        have h1 := HST.out
                        rw [if_pos ⟨hq0, hmem⟩] at h1
                        exact h1
                      clear hmem HST HHas hq0
                      have mBW := kept KZ14 hXB m12
                      have b0 : w15.cell? ⟨BW, 0, none⟩ = some (.slice (some ⟨m.g, 0, none⟩) m.o.s.length m.cap) := cell_at mBW 0
                      have b1 : w15.cell? ⟨BW, 1, none⟩ = some (.int .i64 m.o.c) := cell_at mBW 1
                      have hBl : BW < w15.heap.size := lt_of mBW
                      have hbeX : be < X.heap.size := by
                        obtain ⟨b', o', he, hl', -⟩ := IE.at k3 hkE
                        simp only [Option.some.injEq, Addr.mk.injEq, and_true] at he
                        omega
                      have PM := P12
                      have P15 : w15.ownsRow (w.heap.size + 1) 3 1 m.v m.o.s.length (zc m.o.s) := own_low P12 KZ14 hmgX
                      have HCM : Hid (∀ w', Below w15.heap.size w15 w' → ∀ i (h : i < m.o.s.length), w'.cell? ⟨m.g, i, none⟩ = some (.int .i64 m.o.s[i])) := fun w' L i hi => own_cells (own_on' P15 L (Nat.le_refl _)) i _ (by simp [zc, List.getElem?_eq_getElem hi])
                      have KA1 : Below w15.heap.size w15 (w15.alloc (.cells #[] 3)).drew := (new_below w15 _).drew
                      have KA2 : Below w15.heap.size w15 ((w15.alloc (.cells #[] 3)).alloc (.cells #[.int .i64 q2] 3)).drew := ((new_below w15 _).alloc (new_below w15 _).size _).drew
                      have KB1 : Below w15.heap.size w15 (w15.alloc (.cells #[.int .i64 q2] 3)).drew := (new_below w15 _).drew
                      have KB2 : Below w15.heap.size w15 ((w15.alloc (.cells #[.int .i64 q2] 3)).alloc (.cells #[] 3)).drew := ((new_below w15 _).alloc (new_below w15 _).size _).drew
                      have eA : (w15.alloc (.cells #[] 3)).heap.size = w15.heap.size + 1 := Array.size_push ..
                      have eB : (w15.alloc (.cells #[.int .i64 q2] 3)).heap.size = w15.heap.size + 1 := Array.size_push ..
                      have OA1 : (w15.alloc (.cells #[] 3)).drew.ownsRow w15.heap.size 3 1 (.slice (some ⟨w15.heap.size, 0, none⟩) 0 0) 0 [] := own_empty w15 w15.heap.size 3 1 (Nat.le_refl _)
                      have OA2 : ((w15.alloc (.cells #[] 3)).alloc (.cells #[.int .i64 q2] 3)).drew.ownsRow w15.heap.size 3 1 (.slice (some ⟨w15.heap.size, 0, none⟩) 0 0) 0 [] := own_on' (own_empty w15 w15.heap.size 3 1 (Nat.le_refl _)) ((new_below _ _).drew) (Nat.le_refl _)
                      have OB2 : ((w15.alloc (.cells #[.int .i64 q2] 3)).alloc (.cells #[] 3)).drew.ownsRow w15.heap.size 3 1 (.slice (some ⟨w15.heap.size + 1, 0, none⟩) 0 0) 0 [] := by
                        have h := own_empty (w15.alloc (.cells #[.int .i64 q2] 3)) w15.heap.size 3 1 (by omega)
                        rw [eB] at h
                        exact h
                      have MA2 : ((w15.alloc (.cells #[] 3)).alloc (.cells #[.int .i64 q2] 3)).drew.heap[w15.heap.size + 1]? = some (.cells #[.int .i64 q2] 3) := by
                        have h := heap_new (w15.alloc (.cells #[] 3)) (.cells #[.int .i64 q2] 3)
                        rw [eA] at h
                        exact h
                      have MB2 : ((w15.alloc (.cells #[.int .i64 q2] 3)).alloc (.cells #[] 3)).drew.heap[w15.heap.size]? = some (.cells #[.int .i64 q2] 3) := kept ((new_below _ _).drew) (lt_of (heap_new w15 (.cells #[.int .i64 q2] 3))) (heap_new w15 (.cells #[.int .i64 q2] 3))
                      obtain ⟨i2, hj0, hj1, hj2, hj3⟩ := info_of info_lw
                      obtain ⟨cc, hcc⟩ : ∃ cc, m.o.c + p.co = cc := ⟨_, rfl⟩
                      have i6 : IntKind.i64.wrap cc = cc := by rw [IntKind.wrap_i64]; omega
                      have hDl : ∀ g, (Value.slice aD2 d2.length cD2).ownBlock = some g → g < w15.heap.size := fun g hg => (own_blt DQ14 hg).2
                      clear eA eB
                      go_wp2
                      refine wp_region_held_drew (S := (fun w' => w'.cell? ⟨BW, 0, none⟩ = some (.slice (some ⟨m.g, 0, none⟩) m.o.s.length m.cap) ∧ w'.cell? ⟨BW, 1, none⟩ = some (.int .i64 m.o.c) ∧ w'.cell? ⟨be, oe + k3 * 3 + 2, none⟩ = some (.int .i64 p.co))) (by kernel_rfl) ?_ (fun hHeld => ?_)
                      · exact ⟨b0, b1, cel⟩
                      refine wpAnyH_take (i := 0) (v := u8) rfl (by kernel_rfl) (by kernel_rfl) (by kernel_rfl) (fun _ _ _ h => h) (Or.inl ⟨by kernel_rfl, fun w hSw => by first | (go_simp; done) | (dsimp only at hSw; obtain ⟨hS0, hS1, hS2⟩ := hSw; go_simp; done) | rfl⟩) (by assumption) ?_
                      simp only [Act.put, List.getElem_toArray, List.getElem_cons_succ, List.getElem_cons_zero, List.setIfInBounds_toArray, List.set_cons_succ, List.set_cons_zero]
                      refine wpAnyH_take (i := 2) (v := .pointer (some ⟨BW, 0, none⟩)) rfl (by kernel_rfl) (by kernel_rfl) (by kernel_rfl) (fun _ _ _ h => h) (Or.inl ⟨by kernel_rfl, fun w hSw => by first | (go_simp; done) | (dsimp only at hSw; obtain ⟨hS0, hS1, hS2⟩ := hSw; go_simp; done) | rfl⟩) (by assumption) ?_
                      simp only [Act.put, List.getElem_toArray, List.getElem_cons_succ, List.getElem_cons_zero, List.setIfInBounds_toArray, List.set_cons_succ, List.set_cons_zero]
                      refine wpAnyH_take (i := 3) (v := .slice (some ⟨m.g, 0, none⟩) m.o.s.length m.cap) rfl (by kernel_rfl) (by kernel_rfl) (by kernel_rfl) (fun _ _ _ h => h) (Or.inl ⟨by kernel_rfl, fun w hSw => by first | (go_simp; done) | (dsimp only at hSw; obtain ⟨hS0, hS1, hS2⟩ := hSw; go_simp; done) | rfl⟩) (by assumption) ?_
                      simp only [Act.put, List.getElem_toArray, List.getElem_cons_succ, List.getElem_cons_zero, List.setIfInBounds_toArray, List.set_cons_succ, List.set_cons_zero]
                      refine wpAnyH_take (i := 5) (v := .int .i64 q2) rfl (by kernel_rfl) (by kernel_rfl) (by kernel_rfl) (fun _ _ _ h => h) (Or.inl ⟨by kernel_rfl, fun w hSw => by first | (go_simp; done) | (dsimp only at hSw; obtain ⟨hS0, hS1, hS2⟩ := hSw; go_simp; done) | rfl⟩) (by assumption) ?_
                      simp only [Act.put, List.getElem_toArray, List.getElem_cons_succ, List.getElem_cons_zero, List.setIfInBounds_toArray, List.set_cons_succ, List.set_cons_zero]
                      refine wpAnyH_take (i := 8) (v := .pointer (some ⟨BW, 1, none⟩)) rfl (by kernel_rfl) (by kernel_rfl) (by kernel_rfl) (fun _ _ _ h => h) (Or.inl ⟨by kernel_rfl, fun w hSw => by first | (go_simp; done) | (dsimp only at hSw; obtain ⟨hS0, hS1, hS2⟩ := hSw; go_simp; done) | rfl⟩) (by assumption) ?_
                      simp only [Act.put, List.getElem_toArray, List.getElem_cons_succ, List.getElem_cons_zero, List.setIfInBounds_toArray, List.set_cons_succ, List.set_cons_zero]
                      refine wpAnyH_take (i := 9) (v := .int .i64 m.o.c) rfl (by kernel_rfl) (by kernel_rfl) (by kernel_rfl) (fun _ _ _ h => h) (Or.inl ⟨by kernel_rfl, fun w hSw => by first | (go_simp; done) | (dsimp only at hSw; obtain ⟨hS0, hS1, hS2⟩ := hSw; go_simp; done) | rfl⟩) (by assumption) ?_
                      simp only [Act.put, List.getElem_toArray, List.getElem_cons_succ, List.getElem_cons_zero, List.setIfInBounds_toArray, List.set_cons_succ, List.set_cons_zero]
                      refine wpAnyH_take (i := 10) (v := .slice (some ⟨be, oe, none⟩) E.length ce) rfl (by kernel_rfl) (by kernel_rfl) (by kernel_rfl) (fun _ _ _ h => h) (Or.inl ⟨by kernel_rfl, fun w hSw => by first | (go_simp; done) | (dsimp only at hSw; obtain ⟨hS0, hS1, hS2⟩ := hSw; go_simp; done) | rfl⟩) (by assumption) ?_
                      simp only [Act.put, List.getElem_toArray, List.getElem_cons_succ, List.getElem_cons_zero, List.setIfInBounds_toArray, List.set_cons_succ, List.set_cons_zero]
                      refine wpAnyH_take (i := 11) (v := .int .i64 k3) rfl (by kernel_rfl) (by kernel_rfl) (by kernel_rfl) (fun _ _ _ h => h) (Or.inl ⟨by kernel_rfl, fun w hSw => by first | (go_simp; done) | (dsimp only at hSw; obtain ⟨hS0, hS1, hS2⟩ := hSw; go_simp; done) | rfl⟩) (by assumption) ?_
                      simp only [Act.put, List.getElem_toArray, List.getElem_cons_succ, List.getElem_cons_zero, List.setIfInBounds_toArray, List.set_cons_succ, List.set_cons_zero]
                      refine wpAnyH_take (i := 12) (v := .pointer (some ⟨be, oe + k3 * 3, none⟩)) rfl (by kernel_rfl) (by kernel_rfl) (by kernel_rfl) (fun _ _ _ h => h) (Or.inl ⟨by kernel_rfl, fun w hSw => by first | (go_simp; done) | (dsimp only at hSw; obtain ⟨hS0, hS1, hS2⟩ := hSw; go_simp; done) | rfl⟩) (by assumption) ?_
                      simp only [Act.put, List.getElem_toArray, List.getElem_cons_succ, List.getElem_cons_zero, List.setIfInBounds_toArray, List.set_cons_succ, List.set_cons_zero]
                      refine wpAnyH_take (i := 13) (v := .pointer (some ⟨be, oe + k3 * 3 + 2, none⟩)) rfl (by kernel_rfl) (by kernel_rfl) (by kernel_rfl) (fun _ _ _ h => h) (Or.inl ⟨by kernel_rfl, fun w hSw => by first | (go_simp; done) | (dsimp only at hSw; obtain ⟨hS0, hS1, hS2⟩ := hSw; go_simp; done) | rfl⟩) (by assumption) ?_
                      simp only [Act.put, List.getElem_toArray, List.getElem_cons_succ, List.getElem_cons_zero, List.setIfInBounds_toArray, List.set_cons_succ, List.set_cons_zero]
                      refine wpAnyH_take (i := 14) (v := .int .i64 p.co) rfl (by kernel_rfl) (by kernel_rfl) (by kernel_rfl) (fun _ _ _ h => h) (Or.inl ⟨by kernel_rfl, fun w hSw => by first | (go_simp; done) | (dsimp only at hSw; obtain ⟨hS0, hS1, hS2⟩ := hSw; go_simp; done) | rfl⟩) (by assumption) ?_
                      simp only [Act.put, List.getElem_toArray, List.getElem_cons_succ, List.getElem_cons_zero, List.setIfInBounds_toArray, List.set_cons_succ, List.set_cons_zero]
                      refine wpAnyH_take (i := 15) (v := .int .i64 cc) rfl (by kernel_rfl) (by kernel_rfl) (by kernel_rfl) (fun _ _ _ h => h) (Or.inl ⟨by kernel_rfl, fun w hSw => by first | (go_simp; done) | (dsimp only at hSw; obtain ⟨hS0, hS1, hS2⟩ := hSw; go_simp; done) | rfl⟩) (by assumption) ?_
                      simp only [Act.put, List.getElem_toArray, List.getElem_cons_succ, List.getElem_cons_zero, List.setIfInBounds_toArray, List.set_cons_succ, List.set_cons_zero]
                      refine wpAnyH_ready (rs := [1, 6]) (by kernel_rfl) (by simp) ?_
                      refine AllReadyH.cons rfl (fun K hK => ?_) (AllReadyH.cons rfl (fun K hK => ?_) (AllReadyH.nil))
                      · go_simp
                        refine hK.out _ _ ?_ (fun hHeld2 => ?_)
                        · first | exact hHeld | exact ⟨(KA1.cell (p := ⟨BW, 0, none⟩) hBl).trans b0, (KA1.cell (p := ⟨BW, 1, none⟩) hBl).trans b1, (KA1.cell (p := ⟨be, oe + k3 * 3 + 2, none⟩) hlt14).trans cel⟩ | exact ⟨(KB1.cell (p := ⟨BW, 0, none⟩) hBl).trans b0, (KB1.cell (p := ⟨BW, 1, none⟩) hBl).trans b1, (KB1.cell (p := ⟨be, oe + k3 * 3 + 2, none⟩) hlt14).trans cel⟩ | exact ⟨(KA2.cell (p := ⟨BW, 0, none⟩) hBl).trans b0, (KA2.cell (p := ⟨BW, 1, none⟩) hBl).trans b1, (KA2.cell (p := ⟨be, oe + k3 * 3 + 2, none⟩) hlt14).trans cel⟩ | exact ⟨(KB2.cell (p := ⟨BW, 0, none⟩) hBl).trans b0, (KB2.cell (p := ⟨BW, 1, none⟩) hBl).trans b1, (KB2.cell (p := ⟨be, oe + k3 * 3 + 2, none⟩) hlt14).trans cel⟩ | exact ⟨(K4.cell (p := ⟨BW, 0, none⟩) hBl).trans b0, (K4.cell (p := ⟨BW, 1, none⟩) hBl).trans b1, (K4.cell (p := ⟨be, oe + k3 * 3 + 2, none⟩) hlt14).trans cel⟩ | exact ⟨((K4.alloc K4.size _).cell (p := ⟨BW, 0, none⟩) hBl).trans b0, ((K4.alloc K4.size _).cell (p := ⟨BW, 1, none⟩) hBl).trans b1, ((K4.alloc K4.size _).cell (p := ⟨be, oe + k3 * 3 + 2, none⟩) hlt14).trans cel⟩ | exact ⟨(K7.cell (p := ⟨BW, 0, none⟩) hBl).trans b0, (K7.cell (p := ⟨BW, 1, none⟩) hBl).trans b1, (K7.cell (p := ⟨be, oe + k3 * 3 + 2, none⟩) hlt14).trans cel⟩ | exact ⟨((K7.alloc K7.size _).cell (p := ⟨BW, 0, none⟩) hBl).trans b0, ((K7.alloc K7.size _).cell (p := ⟨BW, 1, none⟩) hBl).trans b1, ((K7.alloc K7.size _).cell (p := ⟨be, oe + k3 * 3 + 2, none⟩) hlt14).trans cel⟩ | exact ⟨(K18.cell (p := ⟨BW, 0, none⟩) hBl).trans b0, (K18.cell (p := ⟨BW, 1, none⟩) hBl).trans b1, (K18.cell (p := ⟨be, oe + k3 * 3 + 2, none⟩) hlt14).trans cel⟩ | exact ⟨(K18.cell (p := ⟨BW, 0, none⟩) hXB).trans b0, (K18.cell (p := ⟨BW, 1, none⟩) hXB).trans b1, (K18.cell (p := ⟨be, oe + k3 * 3 + 2, none⟩) hbeX).trans cel⟩
                        clear hK K hHeld
                        have hHeld := hHeld2
                        clear hHeld2
                        refine wpAnyH_ready (rs := [4, 6]) (by kernel_rfl) (by simp) ?_
                        refine AllReadyH.cons rfl (fun K hK => ?_) (AllReadyH.cons rfl (fun K hK => ?_) (AllReadyH.nil))
                        · rw [if_pos (by kernel_rfl)]
                          refine wp_append_at _ _ 56 rfl w15.heap.size 3 i1 (.int .i64 0) 1 8 Try.underlying56 hi1 hy0 hy1 hy2 rfl (by omega) _ 0 [] rfl (by first | exact OA1 | exact OA2 | exact OB2) _ m.o.s.length m.cap (zc m.o.s) rfl (by rw [zc_length, Nat.mul_one]) (zc_at (HCM.out _ (by first | exact KA1 | exact KA2 | exact KB2))) (zc_one _) (by unfold maxLen; omega) (by omega) (by first | exact KA1.size | exact KA2.size | exact KB2.size) ?_
                          intro v4 w4 O4 G4 hl4
                          have K4 : Below w15.heap.size w15 w4 := by first | exact KA1.grown G4 KA1.size (fun k hk => by cases hk; exact Nat.le_refl _) | exact KA2.grown G4 KA2.size (fun k hk => by cases hk; exact Nat.le_refl _) | exact KB2.grown G4 KB2.size (fun k hk => by cases hk; exact Nat.le_succ _)
                          first | (have m6 : w4.heap[w15.heap.size + 1]? = some (.cells #[.int .i64 q2] 3) := (G4.block _ (lt_of MA2) (fun h => by have h' : some (w15.heap.size + 1) = some w15.heap.size := h; have h2 := Option.some.inj h'; omega)).trans MA2) | (have m6 : w4.heap[w15.heap.size]? = some (.cells #[.int .i64 q2] 3) := (G4.block _ (lt_of MB2) (fun h => by have h' : some w15.heap.size = some (w15.heap.size + 1) := h; have h2 := Option.some.inj h'; omega)).trans MB2) | skip
                          try simp only [Act.put, List.getElem_toArray, List.getElem_cons_succ, List.getElem_cons_zero, List.setIfInBounds_toArray, List.set_cons_succ, List.set_cons_zero]
                          refine hK.out _ _ ?_ (fun hHeld2 => ?_)
                          · first | exact hHeld | exact ⟨(KA1.cell (p := ⟨BW, 0, none⟩) hBl).trans b0, (KA1.cell (p := ⟨BW, 1, none⟩) hBl).trans b1, (KA1.cell (p := ⟨be, oe + k3 * 3 + 2, none⟩) hlt14).trans cel⟩ | exact ⟨(KB1.cell (p := ⟨BW, 0, none⟩) hBl).trans b0, (KB1.cell (p := ⟨BW, 1, none⟩) hBl).trans b1, (KB1.cell (p := ⟨be, oe + k3 * 3 + 2, none⟩) hlt14).trans cel⟩ | exact ⟨(KA2.cell (p := ⟨BW, 0, none⟩) hBl).trans b0, (KA2.cell (p := ⟨BW, 1, none⟩) hBl).trans b1, (KA2.cell (p := ⟨be, oe + k3 * 3 + 2, none⟩) hlt14).trans cel⟩ | exact ⟨(KB2.cell (p := ⟨BW, 0, none⟩) hBl).trans b0, (KB2.cell (p := ⟨BW, 1, none⟩) hBl).trans b1, (KB2.cell (p := ⟨be, oe + k3 * 3 + 2, none⟩) hlt14).trans cel⟩ | exact ⟨(K4.cell (p := ⟨BW, 0, none⟩) hBl).trans b0, (K4.cell (p := ⟨BW, 1, none⟩) hBl).trans b1, (K4.cell (p := ⟨be, oe + k3 * 3 + 2, none⟩) hlt14).trans cel⟩ | exact ⟨((K4.alloc K4.size _).cell (p := ⟨BW, 0, none⟩) hBl).trans b0, ((K4.alloc K4.size _).cell (p := ⟨BW, 1, none⟩) hBl).trans b1, ((K4.alloc K4.size _).cell (p := ⟨be, oe + k3 * 3 + 2, none⟩) hlt14).trans cel⟩ | exact ⟨(K7.cell (p := ⟨BW, 0, none⟩) hBl).trans b0, (K7.cell (p := ⟨BW, 1, none⟩) hBl).trans b1, (K7.cell (p := ⟨be, oe + k3 * 3 + 2, none⟩) hlt14).trans cel⟩ | exact ⟨((K7.alloc K7.size _).cell (p := ⟨BW, 0, none⟩) hBl).trans b0, ((K7.alloc K7.size _).cell (p := ⟨BW, 1, none⟩) hBl).trans b1, ((K7.alloc K7.size _).cell (p := ⟨be, oe + k3 * 3 + 2, none⟩) hlt14).trans cel⟩ | exact ⟨(K18.cell (p := ⟨BW, 0, none⟩) hBl).trans b0, (K18.cell (p := ⟨BW, 1, none⟩) hBl).trans b1, (K18.cell (p := ⟨be, oe + k3 * 3 + 2, none⟩) hlt14).trans cel⟩ | exact ⟨(K18.cell (p := ⟨BW, 0, none⟩) hXB).trans b0, (K18.cell (p := ⟨BW, 1, none⟩) hXB).trans b1, (K18.cell (p := ⟨be, oe + k3 * 3 + 2, none⟩) hbeX).trans cel⟩
                          clear hK K hHeld
                          have hHeld := hHeld2
                          clear hHeld2
                          refine wpAnyH_ready (rs := [6]) (by kernel_rfl) (by simp) ?_
                          refine AllReadyH.cons rfl (fun K hK => ?_) (AllReadyH.nil)
                          go_simp
                          refine hK.out _ _ ?_ (fun hHeld2 => ?_)
                          · first | exact hHeld | exact ⟨(KA1.cell (p := ⟨BW, 0, none⟩) hBl).trans b0, (KA1.cell (p := ⟨BW, 1, none⟩) hBl).trans b1, (KA1.cell (p := ⟨be, oe + k3 * 3 + 2, none⟩) hlt14).trans cel⟩ | exact ⟨(KB1.cell (p := ⟨BW, 0, none⟩) hBl).trans b0, (KB1.cell (p := ⟨BW, 1, none⟩) hBl).trans b1, (KB1.cell (p := ⟨be, oe + k3 * 3 + 2, none⟩) hlt14).trans cel⟩ | exact ⟨(KA2.cell (p := ⟨BW, 0, none⟩) hBl).trans b0, (KA2.cell (p := ⟨BW, 1, none⟩) hBl).trans b1, (KA2.cell (p := ⟨be, oe + k3 * 3 + 2, none⟩) hlt14).trans cel⟩ | exact ⟨(KB2.cell (p := ⟨BW, 0, none⟩) hBl).trans b0, (KB2.cell (p := ⟨BW, 1, none⟩) hBl).trans b1, (KB2.cell (p := ⟨be, oe + k3 * 3 + 2, none⟩) hlt14).trans cel⟩ | exact ⟨(K4.cell (p := ⟨BW, 0, none⟩) hBl).trans b0, (K4.cell (p := ⟨BW, 1, none⟩) hBl).trans b1, (K4.cell (p := ⟨be, oe + k3 * 3 + 2, none⟩) hlt14).trans cel⟩ | exact ⟨((K4.alloc K4.size _).cell (p := ⟨BW, 0, none⟩) hBl).trans b0, ((K4.alloc K4.size _).cell (p := ⟨BW, 1, none⟩) hBl).trans b1, ((K4.alloc K4.size _).cell (p := ⟨be, oe + k3 * 3 + 2, none⟩) hlt14).trans cel⟩ | exact ⟨(K7.cell (p := ⟨BW, 0, none⟩) hBl).trans b0, (K7.cell (p := ⟨BW, 1, none⟩) hBl).trans b1, (K7.cell (p := ⟨be, oe + k3 * 3 + 2, none⟩) hlt14).trans cel⟩ | exact ⟨((K7.alloc K7.size _).cell (p := ⟨BW, 0, none⟩) hBl).trans b0, ((K7.alloc K7.size _).cell (p := ⟨BW, 1, none⟩) hBl).trans b1, ((K7.alloc K7.size _).cell (p := ⟨be, oe + k3 * 3 + 2, none⟩) hlt14).trans cel⟩ | exact ⟨(K18.cell (p := ⟨BW, 0, none⟩) hBl).trans b0, (K18.cell (p := ⟨BW, 1, none⟩) hBl).trans b1, (K18.cell (p := ⟨be, oe + k3 * 3 + 2, none⟩) hlt14).trans cel⟩ | exact ⟨(K18.cell (p := ⟨BW, 0, none⟩) hXB).trans b0, (K18.cell (p := ⟨BW, 1, none⟩) hXB).trans b1, (K18.cell (p := ⟨be, oe + k3 * 3 + 2, none⟩) hbeX).trans cel⟩
                          clear hK K hHeld
                          have hHeld := hHeld2
                          clear hHeld2
                          refine wpAnyH_ready (rs := [7]) (by kernel_rfl) (by simp) ?_
                          refine AllReadyH.cons rfl (fun K hK => ?_) (AllReadyH.nil)
                          rw [if_pos (by kernel_rfl)]
                          refine wp_append_at _ _ 56 rfl w15.heap.size 3 i1 (.int .i64 0) 1 8 Try.underlying56 hi1 hy0 hy1 hy2 rfl (by omega) _ (0 + m.o.s.length) ([] ++ zc m.o.s) rfl (by first | exact O4 | exact own_on' O4 (new_below w4 _) (Nat.le_refl _)) _ 1 1 [.int .i64 q2] rfl rfl (one_at (by first | exact m6 | exact heap_new w4 _)) (by simp [Value.oneCell', Value.cells]) (by unfold maxLen; omega) (by omega) (by first | exact K4.size | exact Nat.le_trans K4.size (new_below w4 _).size) ?_
                          intro v7 w7 O7 G7 hl7
                          have K7 : Below w15.heap.size w15 w7 := by first | exact K4.grown G7 K4.size (fun k hk => (own_blt O4 hk).1) | exact (K4.alloc K4.size _).grown G7 (Nat.le_trans K4.size (new_below w4 _).size) (fun k hk => (own_blt O4 hk).1)
                          obtain ⟨g7, c7, rfl, hg7, hlt7⟩ := O7.form (by omega)
                          try simp only [Act.put, List.getElem_toArray, List.getElem_cons_succ, List.getElem_cons_zero, List.setIfInBounds_toArray, List.set_cons_succ, List.set_cons_zero]
                          refine hK.out _ _ ?_ (fun hHeld2 => ?_)
                          · first | exact hHeld | exact ⟨(KA1.cell (p := ⟨BW, 0, none⟩) hBl).trans b0, (KA1.cell (p := ⟨BW, 1, none⟩) hBl).trans b1, (KA1.cell (p := ⟨be, oe + k3 * 3 + 2, none⟩) hlt14).trans cel⟩ | exact ⟨(KB1.cell (p := ⟨BW, 0, none⟩) hBl).trans b0, (KB1.cell (p := ⟨BW, 1, none⟩) hBl).trans b1, (KB1.cell (p := ⟨be, oe + k3 * 3 + 2, none⟩) hlt14).trans cel⟩ | exact ⟨(KA2.cell (p := ⟨BW, 0, none⟩) hBl).trans b0, (KA2.cell (p := ⟨BW, 1, none⟩) hBl).trans b1, (KA2.cell (p := ⟨be, oe + k3 * 3 + 2, none⟩) hlt14).trans cel⟩ | exact ⟨(KB2.cell (p := ⟨BW, 0, none⟩) hBl).trans b0, (KB2.cell (p := ⟨BW, 1, none⟩) hBl).trans b1, (KB2.cell (p := ⟨be, oe + k3 * 3 + 2, none⟩) hlt14).trans cel⟩ | exact ⟨(K4.cell (p := ⟨BW, 0, none⟩) hBl).trans b0, (K4.cell (p := ⟨BW, 1, none⟩) hBl).trans b1, (K4.cell (p := ⟨be, oe + k3 * 3 + 2, none⟩) hlt14).trans cel⟩ | exact ⟨((K4.alloc K4.size _).cell (p := ⟨BW, 0, none⟩) hBl).trans b0, ((K4.alloc K4.size _).cell (p := ⟨BW, 1, none⟩) hBl).trans b1, ((K4.alloc K4.size _).cell (p := ⟨be, oe + k3 * 3 + 2, none⟩) hlt14).trans cel⟩ | exact ⟨(K7.cell (p := ⟨BW, 0, none⟩) hBl).trans b0, (K7.cell (p := ⟨BW, 1, none⟩) hBl).trans b1, (K7.cell (p := ⟨be, oe + k3 * 3 + 2, none⟩) hlt14).trans cel⟩ | exact ⟨((K7.alloc K7.size _).cell (p := ⟨BW, 0, none⟩) hBl).trans b0, ((K7.alloc K7.size _).cell (p := ⟨BW, 1, none⟩) hBl).trans b1, ((K7.alloc K7.size _).cell (p := ⟨be, oe + k3 * 3 + 2, none⟩) hlt14).trans cel⟩ | exact ⟨(K18.cell (p := ⟨BW, 0, none⟩) hBl).trans b0, (K18.cell (p := ⟨BW, 1, none⟩) hBl).trans b1, (K18.cell (p := ⟨be, oe + k3 * 3 + 2, none⟩) hlt14).trans cel⟩ | exact ⟨(K18.cell (p := ⟨BW, 0, none⟩) hXB).trans b0, (K18.cell (p := ⟨BW, 1, none⟩) hXB).trans b1, (K18.cell (p := ⟨be, oe + k3 * 3 + 2, none⟩) hbeX).trans cel⟩
                          clear hK K hHeld
                          have hHeld := hHeld2
                          clear hHeld2
                          refine wpAnyH_take (i := 16) (v := .agg #[.slice (some ⟨g7, 0, none⟩) (m.o.s.length + 1) c7, .int .i64 cc]) rfl (by kernel_rfl) (by kernel_rfl) (by kernel_rfl) (fun _ _ _ h => h) (Or.inl ⟨by kernel_rfl, fun w hSw => by first | (go_simp; done) | (dsimp only at hSw; obtain ⟨hS0, hS1, hS2⟩ := hSw; go_simp; done) | rfl⟩) (by assumption) ?_
                          simp only [Act.put, List.getElem_toArray, List.getElem_cons_succ, List.getElem_cons_zero, List.setIfInBounds_toArray, List.set_cons_succ, List.set_cons_zero]
                          refine wpAnyH_ready (rs := [17]) (by kernel_rfl) (by simp) ?_
                          refine AllReadyH.cons rfl (fun K hK => ?_) AllReadyH.nil
                          go_simp
                          refine hK.out _ _ ?_ (fun hHeld2 => ?_)
                          · first | exact hHeld | exact ⟨(KA1.cell (p := ⟨BW, 0, none⟩) hBl).trans b0, (KA1.cell (p := ⟨BW, 1, none⟩) hBl).trans b1, (KA1.cell (p := ⟨be, oe + k3 * 3 + 2, none⟩) hlt14).trans cel⟩ | exact ⟨(KB1.cell (p := ⟨BW, 0, none⟩) hBl).trans b0, (KB1.cell (p := ⟨BW, 1, none⟩) hBl).trans b1, (KB1.cell (p := ⟨be, oe + k3 * 3 + 2, none⟩) hlt14).trans cel⟩ | exact ⟨(KA2.cell (p := ⟨BW, 0, none⟩) hBl).trans b0, (KA2.cell (p := ⟨BW, 1, none⟩) hBl).trans b1, (KA2.cell (p := ⟨be, oe + k3 * 3 + 2, none⟩) hlt14).trans cel⟩ | exact ⟨(KB2.cell (p := ⟨BW, 0, none⟩) hBl).trans b0, (KB2.cell (p := ⟨BW, 1, none⟩) hBl).trans b1, (KB2.cell (p := ⟨be, oe + k3 * 3 + 2, none⟩) hlt14).trans cel⟩ | exact ⟨(K4.cell (p := ⟨BW, 0, none⟩) hBl).trans b0, (K4.cell (p := ⟨BW, 1, none⟩) hBl).trans b1, (K4.cell (p := ⟨be, oe + k3 * 3 + 2, none⟩) hlt14).trans cel⟩ | exact ⟨((K4.alloc K4.size _).cell (p := ⟨BW, 0, none⟩) hBl).trans b0, ((K4.alloc K4.size _).cell (p := ⟨BW, 1, none⟩) hBl).trans b1, ((K4.alloc K4.size _).cell (p := ⟨be, oe + k3 * 3 + 2, none⟩) hlt14).trans cel⟩ | exact ⟨(K7.cell (p := ⟨BW, 0, none⟩) hBl).trans b0, (K7.cell (p := ⟨BW, 1, none⟩) hBl).trans b1, (K7.cell (p := ⟨be, oe + k3 * 3 + 2, none⟩) hlt14).trans cel⟩ | exact ⟨((K7.alloc K7.size _).cell (p := ⟨BW, 0, none⟩) hBl).trans b0, ((K7.alloc K7.size _).cell (p := ⟨BW, 1, none⟩) hBl).trans b1, ((K7.alloc K7.size _).cell (p := ⟨be, oe + k3 * 3 + 2, none⟩) hlt14).trans cel⟩ | exact ⟨(K18.cell (p := ⟨BW, 0, none⟩) hBl).trans b0, (K18.cell (p := ⟨BW, 1, none⟩) hBl).trans b1, (K18.cell (p := ⟨be, oe + k3 * 3 + 2, none⟩) hlt14).trans cel⟩ | exact ⟨(K18.cell (p := ⟨BW, 0, none⟩) hXB).trans b0, (K18.cell (p := ⟨BW, 1, none⟩) hXB).trans b1, (K18.cell (p := ⟨be, oe + k3 * 3 + 2, none⟩) hbeX).trans cel⟩
                          clear hK K hHeld
                          have hHeld := hHeld2
                          clear hHeld2
                          refine wpAnyH_ready (rs := [18]) (by kernel_rfl) (by simp) ?_
                          refine AllReadyH.cons rfl (fun K hK => ?_) AllReadyH.nil
                          rw [if_pos (by kernel_rfl)]
                          have N18 := new_below w7 (.cells #[.slice (some ⟨g7, 0, none⟩) (m.o.s.length + 1) c7, .int .i64 cc] 109)
                          have OS18 := own_on' (own_on' OQ14 K7 (Nat.le_refl _)) N18 (Nat.le_refl _)
                          refine wp_append_at _ _ 144 rfl X.heap.size 109 i2 (.agg #[.slice none 0 0, .int .i64 0]) 2 32 Try.underlying144 hj0 hj1 hj2 hj3 rfl (by omega) _ qs.length (wcells qs) rfl OS18 _ 1 1 [.slice (some ⟨g7, 0, none⟩) (m.o.s.length + 1) c7, .int .i64 cc] rfl rfl (two_at (heap_new w7 _)) (by simp [Value.oneCell', Value.cells]) (by unfold maxLen; omega) (by omega) (by have h1 := K7.size; have h2 := N18.size; omega) ?_
                          intro v18 w18 O18 G18 hl18
                          have hOb : ∀ g, Value.ownBlock u8 = some g → X.heap.size ≤ g := fun g hg => (own_blt OQ14 hg).1
                          have K18 : Below X.heap.size w15 w18 := (K7.mono hsz14).trans ((N18.mono (by have := K7.size; omega)).grown G18 (by have h1 := K7.size; have h2 := N18.size; omega) (fun g hg => hOb g hg))
                          try simp only [Act.put, List.getElem_toArray, List.getElem_cons_succ, List.getElem_cons_zero, List.setIfInBounds_toArray, List.set_cons_succ, List.set_cons_zero]
                          refine hK.out _ _ ?_ (fun hHeld2 => ?_)
                          · first | exact hHeld | exact ⟨(KA1.cell (p := ⟨BW, 0, none⟩) hBl).trans b0, (KA1.cell (p := ⟨BW, 1, none⟩) hBl).trans b1, (KA1.cell (p := ⟨be, oe + k3 * 3 + 2, none⟩) hlt14).trans cel⟩ | exact ⟨(KB1.cell (p := ⟨BW, 0, none⟩) hBl).trans b0, (KB1.cell (p := ⟨BW, 1, none⟩) hBl).trans b1, (KB1.cell (p := ⟨be, oe + k3 * 3 + 2, none⟩) hlt14).trans cel⟩ | exact ⟨(KA2.cell (p := ⟨BW, 0, none⟩) hBl).trans b0, (KA2.cell (p := ⟨BW, 1, none⟩) hBl).trans b1, (KA2.cell (p := ⟨be, oe + k3 * 3 + 2, none⟩) hlt14).trans cel⟩ | exact ⟨(KB2.cell (p := ⟨BW, 0, none⟩) hBl).trans b0, (KB2.cell (p := ⟨BW, 1, none⟩) hBl).trans b1, (KB2.cell (p := ⟨be, oe + k3 * 3 + 2, none⟩) hlt14).trans cel⟩ | exact ⟨(K4.cell (p := ⟨BW, 0, none⟩) hBl).trans b0, (K4.cell (p := ⟨BW, 1, none⟩) hBl).trans b1, (K4.cell (p := ⟨be, oe + k3 * 3 + 2, none⟩) hlt14).trans cel⟩ | exact ⟨((K4.alloc K4.size _).cell (p := ⟨BW, 0, none⟩) hBl).trans b0, ((K4.alloc K4.size _).cell (p := ⟨BW, 1, none⟩) hBl).trans b1, ((K4.alloc K4.size _).cell (p := ⟨be, oe + k3 * 3 + 2, none⟩) hlt14).trans cel⟩ | exact ⟨(K7.cell (p := ⟨BW, 0, none⟩) hBl).trans b0, (K7.cell (p := ⟨BW, 1, none⟩) hBl).trans b1, (K7.cell (p := ⟨be, oe + k3 * 3 + 2, none⟩) hlt14).trans cel⟩ | exact ⟨((K7.alloc K7.size _).cell (p := ⟨BW, 0, none⟩) hBl).trans b0, ((K7.alloc K7.size _).cell (p := ⟨BW, 1, none⟩) hBl).trans b1, ((K7.alloc K7.size _).cell (p := ⟨be, oe + k3 * 3 + 2, none⟩) hlt14).trans cel⟩ | exact ⟨(K18.cell (p := ⟨BW, 0, none⟩) hBl).trans b0, (K18.cell (p := ⟨BW, 1, none⟩) hBl).trans b1, (K18.cell (p := ⟨be, oe + k3 * 3 + 2, none⟩) hlt14).trans cel⟩ | exact ⟨(K18.cell (p := ⟨BW, 0, none⟩) hXB).trans b0, (K18.cell (p := ⟨BW, 1, none⟩) hXB).trans b1, (K18.cell (p := ⟨be, oe + k3 * 3 + 2, none⟩) hbeX).trans cel⟩
                          clear hK K hHeld
                          have hHeld := hHeld2
                          clear hHeld2
                          refine wpAnyH_ready (rs := [19]) (by kernel_rfl) (by simp) ?_
                          refine AllReadyH.cons rfl (fun K hK => ?_) AllReadyH.nil
                          go_simp
                          refine hK.out _ _ ?_ (fun hHeld2 => ?_)
                          · first | exact hHeld | exact ⟨(KA1.cell (p := ⟨BW, 0, none⟩) hBl).trans b0, (KA1.cell (p := ⟨BW, 1, none⟩) hBl).trans b1, (KA1.cell (p := ⟨be, oe + k3 * 3 + 2, none⟩) hlt14).trans cel⟩ | exact ⟨(KB1.cell (p := ⟨BW, 0, none⟩) hBl).trans b0, (KB1.cell (p := ⟨BW, 1, none⟩) hBl).trans b1, (KB1.cell (p := ⟨be, oe + k3 * 3 + 2, none⟩) hlt14).trans cel⟩ | exact ⟨(KA2.cell (p := ⟨BW, 0, none⟩) hBl).trans b0, (KA2.cell (p := ⟨BW, 1, none⟩) hBl).trans b1, (KA2.cell (p := ⟨be, oe + k3 * 3 + 2, none⟩) hlt14).trans cel⟩ | exact ⟨(KB2.cell (p := ⟨BW, 0, none⟩) hBl).trans b0, (KB2.cell (p := ⟨BW, 1, none⟩) hBl).trans b1, (KB2.cell (p := ⟨be, oe + k3 * 3 + 2, none⟩) hlt14).trans cel⟩ | exact ⟨(K4.cell (p := ⟨BW, 0, none⟩) hBl).trans b0, (K4.cell (p := ⟨BW, 1, none⟩) hBl).trans b1, (K4.cell (p := ⟨be, oe + k3 * 3 + 2, none⟩) hlt14).trans cel⟩ | exact ⟨((K4.alloc K4.size _).cell (p := ⟨BW, 0, none⟩) hBl).trans b0, ((K4.alloc K4.size _).cell (p := ⟨BW, 1, none⟩) hBl).trans b1, ((K4.alloc K4.size _).cell (p := ⟨be, oe + k3 * 3 + 2, none⟩) hlt14).trans cel⟩ | exact ⟨(K7.cell (p := ⟨BW, 0, none⟩) hBl).trans b0, (K7.cell (p := ⟨BW, 1, none⟩) hBl).trans b1, (K7.cell (p := ⟨be, oe + k3 * 3 + 2, none⟩) hlt14).trans cel⟩ | exact ⟨((K7.alloc K7.size _).cell (p := ⟨BW, 0, none⟩) hBl).trans b0, ((K7.alloc K7.size _).cell (p := ⟨BW, 1, none⟩) hBl).trans b1, ((K7.alloc K7.size _).cell (p := ⟨be, oe + k3 * 3 + 2, none⟩) hlt14).trans cel⟩ | exact ⟨(K18.cell (p := ⟨BW, 0, none⟩) hBl).trans b0, (K18.cell (p := ⟨BW, 1, none⟩) hBl).trans b1, (K18.cell (p := ⟨be, oe + k3 * 3 + 2, none⟩) hlt14).trans cel⟩ | exact ⟨(K18.cell (p := ⟨BW, 0, none⟩) hXB).trans b0, (K18.cell (p := ⟨BW, 1, none⟩) hXB).trans b1, (K18.cell (p := ⟨be, oe + k3 * 3 + 2, none⟩) hbeX).trans cel⟩
                          clear hK K hHeld
                          have hHeld := hHeld2
                          clear hHeld2
                          refine wpAnyH_done (by kernel_rfl) ?_ _
                          clear hHeld
                          have eL : (ovr m.o p.co q2).s.length = m.o.s.length + 1 := by simp [ovr]
                          have eC : (ovr m.o p.co q2).c = cc := hcc
                          have O19 : Hid (w18.ownsRow X.heap.size 109 2 v18 (qs ++ [(⟨g7, c7, ovr m.o p.co q2⟩ : Pw)]).length (wcells (qs ++ [(⟨g7, c7, ovr m.o p.co q2⟩ : Pw)]))) := by
                            have e1 : (qs ++ [(⟨g7, c7, ovr m.o p.co q2⟩ : Pw)]).length = qs.length + 1 := by simp
                            have e2 : wcells (qs ++ [⟨g7, c7, ovr m.o p.co q2⟩]) = wcells qs ++ [.slice (some ⟨g7, 0, none⟩) (m.o.s.length + 1) c7, .int .i64 cc] := by rw [wcells_append]; simp [wcells, Pw.v, eL, eC]
                            show World.ownsRow _ _ _ _ _ _ _
                            rw [e1, e2]
                            exact O18
                          have DS := own_on' (own_on' DQ14 K7 (Nat.le_refl _)) N18 (Nat.le_refl _)
                          have D19 : Hid (w18.ownsRow (w.heap.size + 1) 3 1 (.slice aD2 d2.length cD2) d2.length (zc d2)) := own_kept DS G18 (rows_apart DS OS18 (by decide))
                          have Q19 : Aside (∀ p' ∈ qs ++ [(⟨g7, c7, ovr m.o p.co q2⟩ : Pw)], w18.ownsRow (w.heap.size + 1) 3 1 p'.v p'.o.s.length (zc p'.o.s) ∧ 0 < p'.o.s.length ∧ (Value.slice aD2 d2.length cD2).ownBlock ≠ some p'.g) := by
                            intro p' hp'
                            rcases List.mem_append.1 hp' with h | h
                            · obtain ⟨h1, h2, h3⟩ := HQ14.out p' h
                              have hs := own_on' (own_on' h1 K7 (Nat.le_refl _)) N18 (Nat.le_refl _)
                              exact ⟨own_kept hs G18 (rows_apart hs OS18 (by decide)), h2, h3⟩
                            · simp at h
                              subst h
                              have e3 : zc (ovr m.o p.co q2).s = [] ++ zc m.o.s ++ [.int .i64 q2] := by simp [zc, ovr]
                              have e4 : (ovr m.o p.co q2).s.length = 0 + m.o.s.length + 1 := by simp [ovr]
                              have hs0 : w7.ownsRow (w.heap.size + 1) 3 1 (.slice (some ⟨g7, 0, none⟩) (ovr m.o p.co q2).s.length c7) (ovr m.o p.co q2).s.length (zc (ovr m.o p.co q2).s) := by
                                rw [e3, e4]
                                exact own_base O7 (by omega)
                              have hs := own_on' hs0 N18 (Nat.le_refl _)
                              refine ⟨own_kept hs G18 (rows_apart hs OS18 (by decide)), by simp [ovr], fun h => ?_⟩
                              have h9 : g7 < w15.heap.size := hDl _ h
                              omega
                          have KZ19 : Below X.heap.size W2 w18 := KZ14.trans K18
                          have HT3 : Aside ((qs ++ [(⟨g7, c7, ovr m.o p.co q2⟩ : Pw)]).map Pw.o = pushF d2 m.o (psn.map Pw.o) (E.take (k3 + 1))) := by
                            show _ = _
                            rw [HT2.out, List.map_append]
                            rfl
                          have hql2 : (qs ++ [(⟨g7, c7, ovr m.o p.co q2⟩ : Pw)]).length ≤ psn.length + (k3 + 1) := by simp; omega
                          clear eL eC
                          go_wp2
                          go_roundw
                          case rel => exact ⟨k3 + 1, _, by go_num, by omega, KZ19, O19, D19, Q19, HT3, hql2⟩
                          case measure => simp [intOf]; omega
                        · go_simp
                          refine hK.out _ _ ?_ (fun hHeld2 => ?_)
                          · first | exact hHeld | exact ⟨(KA1.cell (p := ⟨BW, 0, none⟩) hBl).trans b0, (KA1.cell (p := ⟨BW, 1, none⟩) hBl).trans b1, (KA1.cell (p := ⟨be, oe + k3 * 3 + 2, none⟩) hlt14).trans cel⟩ | exact ⟨(KB1.cell (p := ⟨BW, 0, none⟩) hBl).trans b0, (KB1.cell (p := ⟨BW, 1, none⟩) hBl).trans b1, (KB1.cell (p := ⟨be, oe + k3 * 3 + 2, none⟩) hlt14).trans cel⟩ | exact ⟨(KA2.cell (p := ⟨BW, 0, none⟩) hBl).trans b0, (KA2.cell (p := ⟨BW, 1, none⟩) hBl).trans b1, (KA2.cell (p := ⟨be, oe + k3 * 3 + 2, none⟩) hlt14).trans cel⟩ | exact ⟨(KB2.cell (p := ⟨BW, 0, none⟩) hBl).trans b0, (KB2.cell (p := ⟨BW, 1, none⟩) hBl).trans b1, (KB2.cell (p := ⟨be, oe + k3 * 3 + 2, none⟩) hlt14).trans cel⟩ | exact ⟨(K4.cell (p := ⟨BW, 0, none⟩) hBl).trans b0, (K4.cell (p := ⟨BW, 1, none⟩) hBl).trans b1, (K4.cell (p := ⟨be, oe + k3 * 3 + 2, none⟩) hlt14).trans cel⟩ | exact ⟨((K4.alloc K4.size _).cell (p := ⟨BW, 0, none⟩) hBl).trans b0, ((K4.alloc K4.size _).cell (p := ⟨BW, 1, none⟩) hBl).trans b1, ((K4.alloc K4.size _).cell (p := ⟨be, oe + k3 * 3 + 2, none⟩) hlt14).trans cel⟩ | exact ⟨(K7.cell (p := ⟨BW, 0, none⟩) hBl).trans b0, (K7.cell (p := ⟨BW, 1, none⟩) hBl).trans b1, (K7.cell (p := ⟨be, oe + k3 * 3 + 2, none⟩) hlt14).trans cel⟩ | exact ⟨((K7.alloc K7.size _).cell (p := ⟨BW, 0, none⟩) hBl).trans b0, ((K7.alloc K7.size _).cell (p := ⟨BW, 1, none⟩) hBl).trans b1, ((K7.alloc K7.size _).cell (p := ⟨be, oe + k3 * 3 + 2, none⟩) hlt14).trans cel⟩ | exact ⟨(K18.cell (p := ⟨BW, 0, none⟩) hBl).trans b0, (K18.cell (p := ⟨BW, 1, none⟩) hBl).trans b1, (K18.cell (p := ⟨be, oe + k3 * 3 + 2, none⟩) hlt14).trans cel⟩ | exact ⟨(K18.cell (p := ⟨BW, 0, none⟩) hXB).trans b0, (K18.cell (p := ⟨BW, 1, none⟩) hXB).trans b1, (K18.cell (p := ⟨be, oe + k3 * 3 + 2, none⟩) hbeX).trans cel⟩
                          clear hK K hHeld
                          have hHeld := hHeld2
                          clear hHeld2
                          refine wpAnyH_ready (rs := [4]) (by kernel_rfl) (by simp) ?_
                          refine AllReadyH.cons rfl (fun K hK => ?_) (AllReadyH.nil)
                          rw [if_pos (by kernel_rfl)]
                          refine wp_append_at _ _ 56 rfl w15.heap.size 3 i1 (.int .i64 0) 1 8 Try.underlying56 hi1 hy0 hy1 hy2 rfl (by omega) _ 0 [] rfl (by first | exact OA1 | exact OA2 | exact OB2) _ m.o.s.length m.cap (zc m.o.s) rfl (by rw [zc_length, Nat.mul_one]) (zc_at (HCM.out _ (by first | exact KA1 | exact KA2 | exact KB2))) (zc_one _) (by unfold maxLen; omega) (by omega) (by first | exact KA1.size | exact KA2.size | exact KB2.size) ?_
                          intro v4 w4 O4 G4 hl4
                          have K4 : Below w15.heap.size w15 w4 := by first | exact KA1.grown G4 KA1.size (fun k hk => by cases hk; exact Nat.le_refl _) | exact KA2.grown G4 KA2.size (fun k hk => by cases hk; exact Nat.le_refl _) | exact KB2.grown G4 KB2.size (fun k hk => by cases hk; exact Nat.le_succ _)
                          first | (have m6 : w4.heap[w15.heap.size + 1]? = some (.cells #[.int .i64 q2] 3) := (G4.block _ (lt_of MA2) (fun h => by have h' : some (w15.heap.size + 1) = some w15.heap.size := h; have h2 := Option.some.inj h'; omega)).trans MA2) | (have m6 : w4.heap[w15.heap.size]? = some (.cells #[.int .i64 q2] 3) := (G4.block _ (lt_of MB2) (fun h => by have h' : some w15.heap.size = some (w15.heap.size + 1) := h; have h2 := Option.some.inj h'; omega)).trans MB2) | skip
                          try simp only [Act.put, List.getElem_toArray, List.getElem_cons_succ, List.getElem_cons_zero, List.setIfInBounds_toArray, List.set_cons_succ, List.set_cons_zero]
                          refine hK.out _ _ ?_ (fun hHeld2 => ?_)
                          · first | exact hHeld | exact ⟨(KA1.cell (p := ⟨BW, 0, none⟩) hBl).trans b0, (KA1.cell (p := ⟨BW, 1, none⟩) hBl).trans b1, (KA1.cell (p := ⟨be, oe + k3 * 3 + 2, none⟩) hlt14).trans cel⟩ | exact ⟨(KB1.cell (p := ⟨BW, 0, none⟩) hBl).trans b0, (KB1.cell (p := ⟨BW, 1, none⟩) hBl).trans b1, (KB1.cell (p := ⟨be, oe + k3 * 3 + 2, none⟩) hlt14).trans cel⟩ | exact ⟨(KA2.cell (p := ⟨BW, 0, none⟩) hBl).trans b0, (KA2.cell (p := ⟨BW, 1, none⟩) hBl).trans b1, (KA2.cell (p := ⟨be, oe + k3 * 3 + 2, none⟩) hlt14).trans cel⟩ | exact ⟨(KB2.cell (p := ⟨BW, 0, none⟩) hBl).trans b0, (KB2.cell (p := ⟨BW, 1, none⟩) hBl).trans b1, (KB2.cell (p := ⟨be, oe + k3 * 3 + 2, none⟩) hlt14).trans cel⟩ | exact ⟨(K4.cell (p := ⟨BW, 0, none⟩) hBl).trans b0, (K4.cell (p := ⟨BW, 1, none⟩) hBl).trans b1, (K4.cell (p := ⟨be, oe + k3 * 3 + 2, none⟩) hlt14).trans cel⟩ | exact ⟨((K4.alloc K4.size _).cell (p := ⟨BW, 0, none⟩) hBl).trans b0, ((K4.alloc K4.size _).cell (p := ⟨BW, 1, none⟩) hBl).trans b1, ((K4.alloc K4.size _).cell (p := ⟨be, oe + k3 * 3 + 2, none⟩) hlt14).trans cel⟩ | exact ⟨(K7.cell (p := ⟨BW, 0, none⟩) hBl).trans b0, (K7.cell (p := ⟨BW, 1, none⟩) hBl).trans b1, (K7.cell (p := ⟨be, oe + k3 * 3 + 2, none⟩) hlt14).trans cel⟩ | exact ⟨((K7.alloc K7.size _).cell (p := ⟨BW, 0, none⟩) hBl).trans b0, ((K7.alloc K7.size _).cell (p := ⟨BW, 1, none⟩) hBl).trans b1, ((K7.alloc K7.size _).cell (p := ⟨be, oe + k3 * 3 + 2, none⟩) hlt14).trans cel⟩ | exact ⟨(K18.cell (p := ⟨BW, 0, none⟩) hBl).trans b0, (K18.cell (p := ⟨BW, 1, none⟩) hBl).trans b1, (K18.cell (p := ⟨be, oe + k3 * 3 + 2, none⟩) hlt14).trans cel⟩ | exact ⟨(K18.cell (p := ⟨BW, 0, none⟩) hXB).trans b0, (K18.cell (p := ⟨BW, 1, none⟩) hXB).trans b1, (K18.cell (p := ⟨be, oe + k3 * 3 + 2, none⟩) hbeX).trans cel⟩
                          clear hK K hHeld
                          have hHeld := hHeld2
                          clear hHeld2
                          refine wpAnyH_ready (rs := [7]) (by kernel_rfl) (by simp) ?_
                          refine AllReadyH.cons rfl (fun K hK => ?_) (AllReadyH.nil)
                          rw [if_pos (by kernel_rfl)]
                          refine wp_append_at _ _ 56 rfl w15.heap.size 3 i1 (.int .i64 0) 1 8 Try.underlying56 hi1 hy0 hy1 hy2 rfl (by omega) _ (0 + m.o.s.length) ([] ++ zc m.o.s) rfl (by first | exact O4 | exact own_on' O4 (new_below w4 _) (Nat.le_refl _)) _ 1 1 [.int .i64 q2] rfl rfl (one_at (by first | exact m6 | exact heap_new w4 _)) (by simp [Value.oneCell', Value.cells]) (by unfold maxLen; omega) (by omega) (by first | exact K4.size | exact Nat.le_trans K4.size (new_below w4 _).size) ?_
                          intro v7 w7 O7 G7 hl7
                          have K7 : Below w15.heap.size w15 w7 := by first | exact K4.grown G7 K4.size (fun k hk => (own_blt O4 hk).1) | exact (K4.alloc K4.size _).grown G7 (Nat.le_trans K4.size (new_below w4 _).size) (fun k hk => (own_blt O4 hk).1)
                          obtain ⟨g7, c7, rfl, hg7, hlt7⟩ := O7.form (by omega)
                          try simp only [Act.put, List.getElem_toArray, List.getElem_cons_succ, List.getElem_cons_zero, List.setIfInBounds_toArray, List.set_cons_succ, List.set_cons_zero]
                          refine hK.out _ _ ?_ (fun hHeld2 => ?_)
                          · first | exact hHeld | exact ⟨(KA1.cell (p := ⟨BW, 0, none⟩) hBl).trans b0, (KA1.cell (p := ⟨BW, 1, none⟩) hBl).trans b1, (KA1.cell (p := ⟨be, oe + k3 * 3 + 2, none⟩) hlt14).trans cel⟩ | exact ⟨(KB1.cell (p := ⟨BW, 0, none⟩) hBl).trans b0, (KB1.cell (p := ⟨BW, 1, none⟩) hBl).trans b1, (KB1.cell (p := ⟨be, oe + k3 * 3 + 2, none⟩) hlt14).trans cel⟩ | exact ⟨(KA2.cell (p := ⟨BW, 0, none⟩) hBl).trans b0, (KA2.cell (p := ⟨BW, 1, none⟩) hBl).trans b1, (KA2.cell (p := ⟨be, oe + k3 * 3 + 2, none⟩) hlt14).trans cel⟩ | exact ⟨(KB2.cell (p := ⟨BW, 0, none⟩) hBl).trans b0, (KB2.cell (p := ⟨BW, 1, none⟩) hBl).trans b1, (KB2.cell (p := ⟨be, oe + k3 * 3 + 2, none⟩) hlt14).trans cel⟩ | exact ⟨(K4.cell (p := ⟨BW, 0, none⟩) hBl).trans b0, (K4.cell (p := ⟨BW, 1, none⟩) hBl).trans b1, (K4.cell (p := ⟨be, oe + k3 * 3 + 2, none⟩) hlt14).trans cel⟩ | exact ⟨((K4.alloc K4.size _).cell (p := ⟨BW, 0, none⟩) hBl).trans b0, ((K4.alloc K4.size _).cell (p := ⟨BW, 1, none⟩) hBl).trans b1, ((K4.alloc K4.size _).cell (p := ⟨be, oe + k3 * 3 + 2, none⟩) hlt14).trans cel⟩ | exact ⟨(K7.cell (p := ⟨BW, 0, none⟩) hBl).trans b0, (K7.cell (p := ⟨BW, 1, none⟩) hBl).trans b1, (K7.cell (p := ⟨be, oe + k3 * 3 + 2, none⟩) hlt14).trans cel⟩ | exact ⟨((K7.alloc K7.size _).cell (p := ⟨BW, 0, none⟩) hBl).trans b0, ((K7.alloc K7.size _).cell (p := ⟨BW, 1, none⟩) hBl).trans b1, ((K7.alloc K7.size _).cell (p := ⟨be, oe + k3 * 3 + 2, none⟩) hlt14).trans cel⟩ | exact ⟨(K18.cell (p := ⟨BW, 0, none⟩) hBl).trans b0, (K18.cell (p := ⟨BW, 1, none⟩) hBl).trans b1, (K18.cell (p := ⟨be, oe + k3 * 3 + 2, none⟩) hlt14).trans cel⟩ | exact ⟨(K18.cell (p := ⟨BW, 0, none⟩) hXB).trans b0, (K18.cell (p := ⟨BW, 1, none⟩) hXB).trans b1, (K18.cell (p := ⟨be, oe + k3 * 3 + 2, none⟩) hbeX).trans cel⟩
                          clear hK K hHeld
                          have hHeld := hHeld2
                          clear hHeld2
                          refine wpAnyH_take (i := 16) (v := .agg #[.slice (some ⟨g7, 0, none⟩) (m.o.s.length + 1) c7, .int .i64 cc]) rfl (by kernel_rfl) (by kernel_rfl) (by kernel_rfl) (fun _ _ _ h => h) (Or.inl ⟨by kernel_rfl, fun w hSw => by first | (go_simp; done) | (dsimp only at hSw; obtain ⟨hS0, hS1, hS2⟩ := hSw; go_simp; done) | rfl⟩) (by assumption) ?_
                          simp only [Act.put, List.getElem_toArray, List.getElem_cons_succ, List.getElem_cons_zero, List.setIfInBounds_toArray, List.set_cons_succ, List.set_cons_zero]
                          refine wpAnyH_ready (rs := [17]) (by kernel_rfl) (by simp) ?_
                          refine AllReadyH.cons rfl (fun K hK => ?_) AllReadyH.nil
                          go_simp
                          refine hK.out _ _ ?_ (fun hHeld2 => ?_)
                          · first | exact hHeld | exact ⟨(KA1.cell (p := ⟨BW, 0, none⟩) hBl).trans b0, (KA1.cell (p := ⟨BW, 1, none⟩) hBl).trans b1, (KA1.cell (p := ⟨be, oe + k3 * 3 + 2, none⟩) hlt14).trans cel⟩ | exact ⟨(KB1.cell (p := ⟨BW, 0, none⟩) hBl).trans b0, (KB1.cell (p := ⟨BW, 1, none⟩) hBl).trans b1, (KB1.cell (p := ⟨be, oe + k3 * 3 + 2, none⟩) hlt14).trans cel⟩ | exact ⟨(KA2.cell (p := ⟨BW, 0, none⟩) hBl).trans b0, (KA2.cell (p := ⟨BW, 1, none⟩) hBl).trans b1, (KA2.cell (p := ⟨be, oe + k3 * 3 + 2, none⟩) hlt14).trans cel⟩ | exact ⟨(KB2.cell (p := ⟨BW, 0, none⟩) hBl).trans b0, (KB2.cell (p := ⟨BW, 1, none⟩) hBl).trans b1, (KB2.cell (p := ⟨be, oe + k3 * 3 + 2, none⟩) hlt14).trans cel⟩ | exact ⟨(K4.cell (p := ⟨BW, 0, none⟩) hBl).trans b0, (K4.cell (p := ⟨BW, 1, none⟩) hBl).trans b1, (K4.cell (p := ⟨be, oe + k3 * 3 + 2, none⟩) hlt14).trans cel⟩ | exact ⟨((K4.alloc K4.size _).cell (p := ⟨BW, 0, none⟩) hBl).trans b0, ((K4.alloc K4.size _).cell (p := ⟨BW, 1, none⟩) hBl).trans b1, ((K4.alloc K4.size _).cell (p := ⟨be, oe + k3 * 3 + 2, none⟩) hlt14).trans cel⟩ | exact ⟨(K7.cell (p := ⟨BW, 0, none⟩) hBl).trans b0, (K7.cell (p := ⟨BW, 1, none⟩) hBl).trans b1, (K7.cell (p := ⟨be, oe + k3 * 3 + 2, none⟩) hlt14).trans cel⟩ | exact ⟨((K7.alloc K7.size _).cell (p := ⟨BW, 0, none⟩) hBl).trans b0, ((K7.alloc K7.size _).cell (p := ⟨BW, 1, none⟩) hBl).trans b1, ((K7.alloc K7.size _).cell (p := ⟨be, oe + k3 * 3 + 2, none⟩) hlt14).trans cel⟩ | exact ⟨(K18.cell (p := ⟨BW, 0, none⟩) hBl).trans b0, (K18.cell (p := ⟨BW, 1, none⟩) hBl).trans b1, (K18.cell (p := ⟨be, oe + k3 * 3 + 2, none⟩) hlt14).trans cel⟩ | exact ⟨(K18.cell (p := ⟨BW, 0, none⟩) hXB).trans b0, (K18.cell (p := ⟨BW, 1, none⟩) hXB).trans b1, (K18.cell (p := ⟨be, oe + k3 * 3 + 2, none⟩) hbeX).trans cel⟩
                          clear hK K hHeld
                          have hHeld := hHeld2
                          clear hHeld2
                          refine wpAnyH_ready (rs := [18]) (by kernel_rfl) (by simp) ?_
                          refine AllReadyH.cons rfl (fun K hK => ?_) AllReadyH.nil
                          rw [if_pos (by kernel_rfl)]
                          have N18 := new_below w7 (.cells #[.slice (some ⟨g7, 0, none⟩) (m.o.s.length + 1) c7, .int .i64 cc] 109)
                          have OS18 := own_on' (own_on' OQ14 K7 (Nat.le_refl _)) N18 (Nat.le_refl _)
                          refine wp_append_at _ _ 144 rfl X.heap.size 109 i2 (.agg #[.slice none 0 0, .int .i64 0]) 2 32 Try.underlying144 hj0 hj1 hj2 hj3 rfl (by omega) _ qs.length (wcells qs) rfl OS18 _ 1 1 [.slice (some ⟨g7, 0, none⟩) (m.o.s.length + 1) c7, .int .i64 cc] rfl rfl (two_at (heap_new w7 _)) (by simp [Value.oneCell', Value.cells]) (by unfold maxLen; omega) (by omega) (by have h1 := K7.size; have h2 := N18.size; omega) ?_
                          intro v18 w18 O18 G18 hl18
                          have hOb : ∀ g, Value.ownBlock u8 = some g → X.heap.size ≤ g := fun g hg => (own_blt OQ14 hg).1
                          have K18 : Below X.heap.size w15 w18 := (K7.mono hsz14).trans ((N18.mono (by have := K7.size; omega)).grown G18 (by have h1 := K7.size; have h2 := N18.size; omega) (fun g hg => hOb g hg))
                          try simp only [Act.put, List.getElem_toArray, List.getElem_cons_succ, List.getElem_cons_zero, List.setIfInBounds_toArray, List.set_cons_succ, List.set_cons_zero]
                          refine hK.out _ _ ?_ (fun hHeld2 => ?_)
                          · first | exact hHeld | exact ⟨(KA1.cell (p := ⟨BW, 0, none⟩) hBl).trans b0, (KA1.cell (p := ⟨BW, 1, none⟩) hBl).trans b1, (KA1.cell (p := ⟨be, oe + k3 * 3 + 2, none⟩) hlt14).trans cel⟩ | exact ⟨(KB1.cell (p := ⟨BW, 0, none⟩) hBl).trans b0, (KB1.cell (p := ⟨BW, 1, none⟩) hBl).trans b1, (KB1.cell (p := ⟨be, oe + k3 * 3 + 2, none⟩) hlt14).trans cel⟩ | exact ⟨(KA2.cell (p := ⟨BW, 0, none⟩) hBl).trans b0, (KA2.cell (p := ⟨BW, 1, none⟩) hBl).trans b1, (KA2.cell (p := ⟨be, oe + k3 * 3 + 2, none⟩) hlt14).trans cel⟩ | exact ⟨(KB2.cell (p := ⟨BW, 0, none⟩) hBl).trans b0, (KB2.cell (p := ⟨BW, 1, none⟩) hBl).trans b1, (KB2.cell (p := ⟨be, oe + k3 * 3 + 2, none⟩) hlt14).trans cel⟩ | exact ⟨(K4.cell (p := ⟨BW, 0, none⟩) hBl).trans b0, (K4.cell (p := ⟨BW, 1, none⟩) hBl).trans b1, (K4.cell (p := ⟨be, oe + k3 * 3 + 2, none⟩) hlt14).trans cel⟩ | exact ⟨((K4.alloc K4.size _).cell (p := ⟨BW, 0, none⟩) hBl).trans b0, ((K4.alloc K4.size _).cell (p := ⟨BW, 1, none⟩) hBl).trans b1, ((K4.alloc K4.size _).cell (p := ⟨be, oe + k3 * 3 + 2, none⟩) hlt14).trans cel⟩ | exact ⟨(K7.cell (p := ⟨BW, 0, none⟩) hBl).trans b0, (K7.cell (p := ⟨BW, 1, none⟩) hBl).trans b1, (K7.cell (p := ⟨be, oe + k3 * 3 + 2, none⟩) hlt14).trans cel⟩ | exact ⟨((K7.alloc K7.size _).cell (p := ⟨BW, 0, none⟩) hBl).trans b0, ((K7.alloc K7.size _).cell (p := ⟨BW, 1, none⟩) hBl).trans b1, ((K7.alloc K7.size _).cell (p := ⟨be, oe + k3 * 3 + 2, none⟩) hlt14).trans cel⟩ | exact ⟨(K18.cell (p := ⟨BW, 0, none⟩) hBl).trans b0, (K18.cell (p := ⟨BW, 1, none⟩) hBl).trans b1, (K18.cell (p := ⟨be, oe + k3 * 3 + 2, none⟩) hlt14).trans cel⟩ | exact ⟨(K18.cell (p := ⟨BW, 0, none⟩) hXB).trans b0, (K18.cell (p := ⟨BW, 1, none⟩) hXB).trans b1, (K18.cell (p := ⟨be, oe + k3 * 3 + 2, none⟩) hbeX).trans cel⟩
                          clear hK K hHeld
                          have hHeld := hHeld2
                          clear hHeld2
                          refine wpAnyH_ready (rs := [19]) (by kernel_rfl) (by simp) ?_
                          refine AllReadyH.cons rfl (fun K hK => ?_) AllReadyH.nil
                          go_simp
                          refine hK.out _ _ ?_ (fun hHeld2 => ?_)
                          · first | exact hHeld | exact ⟨(KA1.cell (p := ⟨BW, 0, none⟩) hBl).trans b0, (KA1.cell (p := ⟨BW, 1, none⟩) hBl).trans b1, (KA1.cell (p := ⟨be, oe + k3 * 3 + 2, none⟩) hlt14).trans cel⟩ | exact ⟨(KB1.cell (p := ⟨BW, 0, none⟩) hBl).trans b0, (KB1.cell (p := ⟨BW, 1, none⟩) hBl).trans b1, (KB1.cell (p := ⟨be, oe + k3 * 3 + 2, none⟩) hlt14).trans cel⟩ | exact ⟨(KA2.cell (p := ⟨BW, 0, none⟩) hBl).trans b0, (KA2.cell (p := ⟨BW, 1, none⟩) hBl).trans b1, (KA2.cell (p := ⟨be, oe + k3 * 3 + 2, none⟩) hlt14).trans cel⟩ | exact ⟨(KB2.cell (p := ⟨BW, 0, none⟩) hBl).trans b0, (KB2.cell (p := ⟨BW, 1, none⟩) hBl).trans b1, (KB2.cell (p := ⟨be, oe + k3 * 3 + 2, none⟩) hlt14).trans cel⟩ | exact ⟨(K4.cell (p := ⟨BW, 0, none⟩) hBl).trans b0, (K4.cell (p := ⟨BW, 1, none⟩) hBl).trans b1, (K4.cell (p := ⟨be, oe + k3 * 3 + 2, none⟩) hlt14).trans cel⟩ | exact ⟨((K4.alloc K4.size _).cell (p := ⟨BW, 0, none⟩) hBl).trans b0, ((K4.alloc K4.size _).cell (p := ⟨BW, 1, none⟩) hBl).trans b1, ((K4.alloc K4.size _).cell (p := ⟨be, oe + k3 * 3 + 2, none⟩) hlt14).trans cel⟩ | exact ⟨(K7.cell (p := ⟨BW, 0, none⟩) hBl).trans b0, (K7.cell (p := ⟨BW, 1, none⟩) hBl).trans b1, (K7.cell (p := ⟨be, oe + k3 * 3 + 2, none⟩) hlt14).trans cel⟩ | exact ⟨((K7.alloc K7.size _).cell (p := ⟨BW, 0, none⟩) hBl).trans b0, ((K7.alloc K7.size _).cell (p := ⟨BW, 1, none⟩) hBl).trans b1, ((K7.alloc K7.size _).cell (p := ⟨be, oe + k3 * 3 + 2, none⟩) hlt14).trans cel⟩ | exact ⟨(K18.cell (p := ⟨BW, 0, none⟩) hBl).trans b0, (K18.cell (p := ⟨BW, 1, none⟩) hBl).trans b1, (K18.cell (p := ⟨be, oe + k3 * 3 + 2, none⟩) hlt14).trans cel⟩ | exact ⟨(K18.cell (p := ⟨BW, 0, none⟩) hXB).trans b0, (K18.cell (p := ⟨BW, 1, none⟩) hXB).trans b1, (K18.cell (p := ⟨be, oe + k3 * 3 + 2, none⟩) hbeX).trans cel⟩
                          clear hK K hHeld
                          have hHeld := hHeld2
                          clear hHeld2
                          refine wpAnyH_done (by kernel_rfl) ?_ _
                          clear hHeld
                          have eL : (ovr m.o p.co q2).s.length = m.o.s.length + 1 := by simp [ovr]
                          have eC : (ovr m.o p.co q2).c = cc := hcc
                          have O19 : Hid (w18.ownsRow X.heap.size 109 2 v18 (qs ++ [(⟨g7, c7, ovr m.o p.co q2⟩ : Pw)]).length (wcells (qs ++ [(⟨g7, c7, ovr m.o p.co q2⟩ : Pw)]))) := by
                            have e1 : (qs ++ [(⟨g7, c7, ovr m.o p.co q2⟩ : Pw)]).length = qs.length + 1 := by simp
                            have e2 : wcells (qs ++ [⟨g7, c7, ovr m.o p.co q2⟩]) = wcells qs ++ [.slice (some ⟨g7, 0, none⟩) (m.o.s.length + 1) c7, .int .i64 cc] := by rw [wcells_append]; simp [wcells, Pw.v, eL, eC]
                            show World.ownsRow _ _ _ _ _ _ _
                            rw [e1, e2]
                            exact O18
                          have DS := own_on' (own_on' DQ14 K7 (Nat.le_refl _)) N18 (Nat.le_refl _)
                          have D19 : Hid (w18.ownsRow (w.heap.size + 1) 3 1 (.slice aD2 d2.length cD2) d2.length (zc d2)) := own_kept DS G18 (rows_apart DS OS18 (by decide))
                          have Q19 : Aside (∀ p' ∈ qs ++ [(⟨g7, c7, ovr m.o p.co q2⟩ : Pw)], w18.ownsRow (w.heap.size + 1) 3 1 p'.v p'.o.s.length (zc p'.o.s) ∧ 0 < p'.o.s.length ∧ (Value.slice aD2 d2.length cD2).ownBlock ≠ some p'.g) := by
                            intro p' hp'
                            rcases List.mem_append.1 hp' with h | h
                            · obtain ⟨h1, h2, h3⟩ := HQ14.out p' h
                              have hs := own_on' (own_on' h1 K7 (Nat.le_refl _)) N18 (Nat.le_refl _)
                              exact ⟨own_kept hs G18 (rows_apart hs OS18 (by decide)), h2, h3⟩
                            · simp at h
                              subst h
                              have e3 : zc (ovr m.o p.co q2).s = [] ++ zc m.o.s ++ [.int .i64 q2] := by simp [zc, ovr]
                              have e4 : (ovr m.o p.co q2).s.length = 0 + m.o.s.length + 1 := by simp [ovr]
                              have hs0 : w7.ownsRow (w.heap.size + 1) 3 1 (.slice (some ⟨g7, 0, none⟩) (ovr m.o p.co q2).s.length c7) (ovr m.o p.co q2).s.length (zc (ovr m.o p.co q2).s) := by
                                rw [e3, e4]
                                exact own_base O7 (by omega)
                              have hs := own_on' hs0 N18 (Nat.le_refl _)
                              refine ⟨own_kept hs G18 (rows_apart hs OS18 (by decide)), by simp [ovr], fun h => ?_⟩
                              have h9 : g7 < w15.heap.size := hDl _ h
                              omega
                          have KZ19 : Below X.heap.size W2 w18 := KZ14.trans K18
                          have HT3 : Aside ((qs ++ [(⟨g7, c7, ovr m.o p.co q2⟩ : Pw)]).map Pw.o = pushF d2 m.o (psn.map Pw.o) (E.take (k3 + 1))) := by
                            show _ = _
                            rw [HT2.out, List.map_append]
                            rfl
                          have hql2 : (qs ++ [(⟨g7, c7, ovr m.o p.co q2⟩ : Pw)]).length ≤ psn.length + (k3 + 1) := by simp; omega
                          clear eL eC
                          go_wp2
                          go_roundw
                          case rel => exact ⟨k3 + 1, _, by go_num, by omega, KZ19, O19, D19, Q19, HT3, hql2⟩
                          case measure => simp [intOf]; omega
                      · go_simp
                        refine hK.out _ _ ?_ (fun hHeld2 => ?_)
                        · first | exact hHeld | exact ⟨(KA1.cell (p := ⟨BW, 0, none⟩) hBl).trans b0, (KA1.cell (p := ⟨BW, 1, none⟩) hBl).trans b1, (KA1.cell (p := ⟨be, oe + k3 * 3 + 2, none⟩) hlt14).trans cel⟩ | exact ⟨(KB1.cell (p := ⟨BW, 0, none⟩) hBl).trans b0, (KB1.cell (p := ⟨BW, 1, none⟩) hBl).trans b1, (KB1.cell (p := ⟨be, oe + k3 * 3 + 2, none⟩) hlt14).trans cel⟩ | exact ⟨(KA2.cell (p := ⟨BW, 0, none⟩) hBl).trans b0, (KA2.cell (p := ⟨BW, 1, none⟩) hBl).trans b1, (KA2.cell (p := ⟨be, oe + k3 * 3 + 2, none⟩) hlt14).trans cel⟩ | exact ⟨(KB2.cell (p := ⟨BW, 0, none⟩) hBl).trans b0, (KB2.cell (p := ⟨BW, 1, none⟩) hBl).trans b1, (KB2.cell (p := ⟨be, oe + k3 * 3 + 2, none⟩) hlt14).trans cel⟩ | exact ⟨(K4.cell (p := ⟨BW, 0, none⟩) hBl).trans b0, (K4.cell (p := ⟨BW, 1, none⟩) hBl).trans b1, (K4.cell (p := ⟨be, oe + k3 * 3 + 2, none⟩) hlt14).trans cel⟩ | exact ⟨((K4.alloc K4.size _).cell (p := ⟨BW, 0, none⟩) hBl).trans b0, ((K4.alloc K4.size _).cell (p := ⟨BW, 1, none⟩) hBl).trans b1, ((K4.alloc K4.size _).cell (p := ⟨be, oe + k3 * 3 + 2, none⟩) hlt14).trans cel⟩ | exact ⟨(K7.cell (p := ⟨BW, 0, none⟩) hBl).trans b0, (K7.cell (p := ⟨BW, 1, none⟩) hBl).trans b1, (K7.cell (p := ⟨be, oe + k3 * 3 + 2, none⟩) hlt14).trans cel⟩ | exact ⟨((K7.alloc K7.size _).cell (p := ⟨BW, 0, none⟩) hBl).trans b0, ((K7.alloc K7.size _).cell (p := ⟨BW, 1, none⟩) hBl).trans b1, ((K7.alloc K7.size _).cell (p := ⟨be, oe + k3 * 3 + 2, none⟩) hlt14).trans cel⟩ | exact ⟨(K18.cell (p := ⟨BW, 0, none⟩) hBl).trans b0, (K18.cell (p := ⟨BW, 1, none⟩) hBl).trans b1, (K18.cell (p := ⟨be, oe + k3 * 3 + 2, none⟩) hlt14).trans cel⟩ | exact ⟨(K18.cell (p := ⟨BW, 0, none⟩) hXB).trans b0, (K18.cell (p := ⟨BW, 1, none⟩) hXB).trans b1, (K18.cell (p := ⟨be, oe + k3 * 3 + 2, none⟩) hbeX).trans cel⟩
                        clear hK K hHeld
                        have hHeld := hHeld2
                        clear hHeld2
                        refine wpAnyH_ready (rs := [1]) (by kernel_rfl) (by simp) ?_
                        refine AllReadyH.cons rfl (fun K hK => ?_) (AllReadyH.nil)
                        go_simp
                        refine hK.out _ _ ?_ (fun hHeld2 => ?_)
                        · first | exact hHeld | exact ⟨(KA1.cell (p := ⟨BW, 0, none⟩) hBl).trans b0, (KA1.cell (p := ⟨BW, 1, none⟩) hBl).trans b1, (KA1.cell (p := ⟨be, oe + k3 * 3 + 2, none⟩) hlt14).trans cel⟩ | exact ⟨(KB1.cell (p := ⟨BW, 0, none⟩) hBl).trans b0, (KB1.cell (p := ⟨BW, 1, none⟩) hBl).trans b1, (KB1.cell (p := ⟨be, oe + k3 * 3 + 2, none⟩) hlt14).trans cel⟩ | exact ⟨(KA2.cell (p := ⟨BW, 0, none⟩) hBl).trans b0, (KA2.cell (p := ⟨BW, 1, none⟩) hBl).trans b1, (KA2.cell (p := ⟨be, oe + k3 * 3 + 2, none⟩) hlt14).trans cel⟩ | exact ⟨(KB2.cell (p := ⟨BW, 0, none⟩) hBl).trans b0, (KB2.cell (p := ⟨BW, 1, none⟩) hBl).trans b1, (KB2.cell (p := ⟨be, oe + k3 * 3 + 2, none⟩) hlt14).trans cel⟩ | exact ⟨(K4.cell (p := ⟨BW, 0, none⟩) hBl).trans b0, (K4.cell (p := ⟨BW, 1, none⟩) hBl).trans b1, (K4.cell (p := ⟨be, oe + k3 * 3 + 2, none⟩) hlt14).trans cel⟩ | exact ⟨((K4.alloc K4.size _).cell (p := ⟨BW, 0, none⟩) hBl).trans b0, ((K4.alloc K4.size _).cell (p := ⟨BW, 1, none⟩) hBl).trans b1, ((K4.alloc K4.size _).cell (p := ⟨be, oe + k3 * 3 + 2, none⟩) hlt14).trans cel⟩ | exact ⟨(K7.cell (p := ⟨BW, 0, none⟩) hBl).trans b0, (K7.cell (p := ⟨BW, 1, none⟩) hBl).trans b1, (K7.cell (p := ⟨be, oe + k3 * 3 + 2, none⟩) hlt14).trans cel⟩ | exact ⟨((K7.alloc K7.size _).cell (p := ⟨BW, 0, none⟩) hBl).trans b0, ((K7.alloc K7.size _).cell (p := ⟨BW, 1, none⟩) hBl).trans b1, ((K7.alloc K7.size _).cell (p := ⟨be, oe + k3 * 3 + 2, none⟩) hlt14).trans cel⟩ | exact ⟨(K18.cell (p := ⟨BW, 0, none⟩) hBl).trans b0, (K18.cell (p := ⟨BW, 1, none⟩) hBl).trans b1, (K18.cell (p := ⟨be, oe + k3 * 3 + 2, none⟩) hlt14).trans cel⟩ | exact ⟨(K18.cell (p := ⟨BW, 0, none⟩) hXB).trans b0, (K18.cell (p := ⟨BW, 1, none⟩) hXB).trans b1, (K18.cell (p := ⟨be, oe + k3 * 3 + 2, none⟩) hbeX).trans cel⟩
                        clear hK K hHeld
                        have hHeld := hHeld2
                        clear hHeld2
                        refine wpAnyH_ready (rs := [4]) (by kernel_rfl) (by simp) ?_
                        refine AllReadyH.cons rfl (fun K hK => ?_) (AllReadyH.nil)
                        rw [if_pos (by kernel_rfl)]
                        refine wp_append_at _ _ 56 rfl w15.heap.size 3 i1 (.int .i64 0) 1 8 Try.underlying56 hi1 hy0 hy1 hy2 rfl (by omega) _ 0 [] rfl (by first | exact OA1 | exact OA2 | exact OB2) _ m.o.s.length m.cap (zc m.o.s) rfl (by rw [zc_length, Nat.mul_one]) (zc_at (HCM.out _ (by first | exact KA1 | exact KA2 | exact KB2))) (zc_one _) (by unfold maxLen; omega) (by omega) (by first | exact KA1.size | exact KA2.size | exact KB2.size) ?_
                        intro v4 w4 O4 G4 hl4
                        have K4 : Below w15.heap.size w15 w4 := by first | exact KA1.grown G4 KA1.size (fun k hk => by cases hk; exact Nat.le_refl _) | exact KA2.grown G4 KA2.size (fun k hk => by cases hk; exact Nat.le_refl _) | exact KB2.grown G4 KB2.size (fun k hk => by cases hk; exact Nat.le_succ _)
                        first | (have m6 : w4.heap[w15.heap.size + 1]? = some (.cells #[.int .i64 q2] 3) := (G4.block _ (lt_of MA2) (fun h => by have h' : some (w15.heap.size + 1) = some w15.heap.size := h; have h2 := Option.some.inj h'; omega)).trans MA2) | (have m6 : w4.heap[w15.heap.size]? = some (.cells #[.int .i64 q2] 3) := (G4.block _ (lt_of MB2) (fun h => by have h' : some w15.heap.size = some (w15.heap.size + 1) := h; have h2 := Option.some.inj h'; omega)).trans MB2) | skip
                        try simp only [Act.put, List.getElem_toArray, List.getElem_cons_succ, List.getElem_cons_zero, List.setIfInBounds_toArray, List.set_cons_succ, List.set_cons_zero]
                        refine hK.out _ _ ?_ (fun hHeld2 => ?_)
                        · first | exact hHeld | exact ⟨(KA1.cell (p := ⟨BW, 0, none⟩) hBl).trans b0, (KA1.cell (p := ⟨BW, 1, none⟩) hBl).trans b1, (KA1.cell (p := ⟨be, oe + k3 * 3 + 2, none⟩) hlt14).trans cel⟩ | exact ⟨(KB1.cell (p := ⟨BW, 0, none⟩) hBl).trans b0, (KB1.cell (p := ⟨BW, 1, none⟩) hBl).trans b1, (KB1.cell (p := ⟨be, oe + k3 * 3 + 2, none⟩) hlt14).trans cel⟩ | exact ⟨(KA2.cell (p := ⟨BW, 0, none⟩) hBl).trans b0, (KA2.cell (p := ⟨BW, 1, none⟩) hBl).trans b1, (KA2.cell (p := ⟨be, oe + k3 * 3 + 2, none⟩) hlt14).trans cel⟩ | exact ⟨(KB2.cell (p := ⟨BW, 0, none⟩) hBl).trans b0, (KB2.cell (p := ⟨BW, 1, none⟩) hBl).trans b1, (KB2.cell (p := ⟨be, oe + k3 * 3 + 2, none⟩) hlt14).trans cel⟩ | exact ⟨(K4.cell (p := ⟨BW, 0, none⟩) hBl).trans b0, (K4.cell (p := ⟨BW, 1, none⟩) hBl).trans b1, (K4.cell (p := ⟨be, oe + k3 * 3 + 2, none⟩) hlt14).trans cel⟩ | exact ⟨((K4.alloc K4.size _).cell (p := ⟨BW, 0, none⟩) hBl).trans b0, ((K4.alloc K4.size _).cell (p := ⟨BW, 1, none⟩) hBl).trans b1, ((K4.alloc K4.size _).cell (p := ⟨be, oe + k3 * 3 + 2, none⟩) hlt14).trans cel⟩ | exact ⟨(K7.cell (p := ⟨BW, 0, none⟩) hBl).trans b0, (K7.cell (p := ⟨BW, 1, none⟩) hBl).trans b1, (K7.cell (p := ⟨be, oe + k3 * 3 + 2, none⟩) hlt14).trans cel⟩ | exact ⟨((K7.alloc K7.size _).cell (p := ⟨BW, 0, none⟩) hBl).trans b0, ((K7.alloc K7.size _).cell (p := ⟨BW, 1, none⟩) hBl).trans b1, ((K7.alloc K7.size _).cell (p := ⟨be, oe + k3 * 3 + 2, none⟩) hlt14).trans cel⟩ | exact ⟨(K18.cell (p := ⟨BW, 0, none⟩) hBl).trans b0, (K18.cell (p := ⟨BW, 1, none⟩) hBl).trans b1, (K18.cell (p := ⟨be, oe + k3 * 3 + 2, none⟩) hlt14).trans cel⟩ | exact ⟨(K18.cell (p := ⟨BW, 0, none⟩) hXB).trans b0, (K18.cell (p := ⟨BW, 1, none⟩) hXB).trans b1, (K18.cell (p := ⟨be, oe + k3 * 3 + 2, none⟩) hbeX).trans cel⟩
                        clear hK K hHeld
                        have hHeld := hHeld2
                        clear hHeld2
                        refine wpAnyH_ready (rs := [7]) (by kernel_rfl) (by simp) ?_
                        refine AllReadyH.cons rfl (fun K hK => ?_) (AllReadyH.nil)
                        rw [if_pos (by kernel_rfl)]
                        refine wp_append_at _ _ 56 rfl w15.heap.size 3 i1 (.int .i64 0) 1 8 Try.underlying56 hi1 hy0 hy1 hy2 rfl (by omega) _ (0 + m.o.s.length) ([] ++ zc m.o.s) rfl (by first | exact O4 | exact own_on' O4 (new_below w4 _) (Nat.le_refl _)) _ 1 1 [.int .i64 q2] rfl rfl (one_at (by first | exact m6 | exact heap_new w4 _)) (by simp [Value.oneCell', Value.cells]) (by unfold maxLen; omega) (by omega) (by first | exact K4.size | exact Nat.le_trans K4.size (new_below w4 _).size) ?_
                        intro v7 w7 O7 G7 hl7
                        have K7 : Below w15.heap.size w15 w7 := by first | exact K4.grown G7 K4.size (fun k hk => (own_blt O4 hk).1) | exact (K4.alloc K4.size _).grown G7 (Nat.le_trans K4.size (new_below w4 _).size) (fun k hk => (own_blt O4 hk).1)
                        obtain ⟨g7, c7, rfl, hg7, hlt7⟩ := O7.form (by omega)
                        try simp only [Act.put, List.getElem_toArray, List.getElem_cons_succ, List.getElem_cons_zero, List.setIfInBounds_toArray, List.set_cons_succ, List.set_cons_zero]
                        refine hK.out _ _ ?_ (fun hHeld2 => ?_)
                        · first | exact hHeld | exact ⟨(KA1.cell (p := ⟨BW, 0, none⟩) hBl).trans b0, (KA1.cell (p := ⟨BW, 1, none⟩) hBl).trans b1, (KA1.cell (p := ⟨be, oe + k3 * 3 + 2, none⟩) hlt14).trans cel⟩ | exact ⟨(KB1.cell (p := ⟨BW, 0, none⟩) hBl).trans b0, (KB1.cell (p := ⟨BW, 1, none⟩) hBl).trans b1, (KB1.cell (p := ⟨be, oe + k3 * 3 + 2, none⟩) hlt14).trans cel⟩ | exact ⟨(KA2.cell (p := ⟨BW, 0, none⟩) hBl).trans b0, (KA2.cell (p := ⟨BW, 1, none⟩) hBl).trans b1, (KA2.cell (p := ⟨be, oe + k3 * 3 + 2, none⟩) hlt14).trans cel⟩ | exact ⟨(KB2.cell (p := ⟨BW, 0, none⟩) hBl).trans b0, (KB2.cell (p := ⟨BW, 1, none⟩) hBl).trans b1, (KB2.cell (p := ⟨be, oe + k3 * 3 + 2, none⟩) hlt14).trans cel⟩ | exact ⟨(K4.cell (p := ⟨BW, 0, none⟩) hBl).trans b0, (K4.cell (p := ⟨BW, 1, none⟩) hBl).trans b1, (K4.cell (p := ⟨be, oe + k3 * 3 + 2, none⟩) hlt14).trans cel⟩ | exact ⟨((K4.alloc K4.size _).cell (p := ⟨BW, 0, none⟩) hBl).trans b0, ((K4.alloc K4.size _).cell (p := ⟨BW, 1, none⟩) hBl).trans b1, ((K4.alloc K4.size _).cell (p := ⟨be, oe + k3 * 3 + 2, none⟩) hlt14).trans cel⟩ | exact ⟨(K7.cell (p := ⟨BW, 0, none⟩) hBl).trans b0, (K7.cell (p := ⟨BW, 1, none⟩) hBl).trans b1, (K7.cell (p := ⟨be, oe + k3 * 3 + 2, none⟩) hlt14).trans cel⟩ | exact ⟨((K7.alloc K7.size _).cell (p := ⟨BW, 0, none⟩) hBl).trans b0, ((K7.alloc K7.size _).cell (p := ⟨BW, 1, none⟩) hBl).trans b1, ((K7.alloc K7.size _).cell (p := ⟨be, oe + k3 * 3 + 2, none⟩) hlt14).trans cel⟩ | exact ⟨(K18.cell (p := ⟨BW, 0, none⟩) hBl).trans b0, (K18.cell (p := ⟨BW, 1, none⟩) hBl).trans b1, (K18.cell (p := ⟨be, oe + k3 * 3 + 2, none⟩) hlt14).trans cel⟩ | exact ⟨(K18.cell (p := ⟨BW, 0, none⟩) hXB).trans b0, (K18.cell (p := ⟨BW, 1, none⟩) hXB).trans b1, (K18.cell (p := ⟨be, oe + k3 * 3 + 2, none⟩) hbeX).trans cel⟩
                        clear hK K hHeld
                        have hHeld := hHeld2
                        clear hHeld2
                        refine wpAnyH_take (i := 16) (v := .agg #[.slice (some ⟨g7, 0, none⟩) (m.o.s.length + 1) c7, .int .i64 cc]) rfl (by kernel_rfl) (by kernel_rfl) (by kernel_rfl) (fun _ _ _ h => h) (Or.inl ⟨by kernel_rfl, fun w hSw => by first | (go_simp; done) | (dsimp only at hSw; obtain ⟨hS0, hS1, hS2⟩ := hSw; go_simp; done) | rfl⟩) (by assumption) ?_
                        simp only [Act.put, List.getElem_toArray, List.getElem_cons_succ, List.getElem_cons_zero, List.setIfInBounds_toArray, List.set_cons_succ, List.set_cons_zero]
                        refine wpAnyH_ready (rs := [17]) (by kernel_rfl) (by simp) ?_
                        refine AllReadyH.cons rfl (fun K hK => ?_) AllReadyH.nil
                        go_simp
                        refine hK.out _ _ ?_ (fun hHeld2 => ?_)
                        · first | exact hHeld | exact ⟨(KA1.cell (p := ⟨BW, 0, none⟩) hBl).trans b0, (KA1.cell (p := ⟨BW, 1, none⟩) hBl).trans b1, (KA1.cell (p := ⟨be, oe + k3 * 3 + 2, none⟩) hlt14).trans cel⟩ | exact ⟨(KB1.cell (p := ⟨BW, 0, none⟩) hBl).trans b0, (KB1.cell (p := ⟨BW, 1, none⟩) hBl).trans b1, (KB1.cell (p := ⟨be, oe + k3 * 3 + 2, none⟩) hlt14).trans cel⟩ | exact ⟨(KA2.cell (p := ⟨BW, 0, none⟩) hBl).trans b0, (KA2.cell (p := ⟨BW, 1, none⟩) hBl).trans b1, (KA2.cell (p := ⟨be, oe + k3 * 3 + 2, none⟩) hlt14).trans cel⟩ | exact ⟨(KB2.cell (p := ⟨BW, 0, none⟩) hBl).trans b0, (KB2.cell (p := ⟨BW, 1, none⟩) hBl).trans b1, (KB2.cell (p := ⟨be, oe + k3 * 3 + 2, none⟩) hlt14).trans cel⟩ | exact ⟨(K4.cell (p := ⟨BW, 0, none⟩) hBl).trans b0, (K4.cell (p := ⟨BW, 1, none⟩) hBl).trans b1, (K4.cell (p := ⟨be, oe + k3 * 3 + 2, none⟩) hlt14).trans cel⟩ | exact ⟨((K4.alloc K4.size _).cell (p := ⟨BW, 0, none⟩) hBl).trans b0, ((K4.alloc K4.size _).cell (p := ⟨BW, 1, none⟩) hBl).trans b1, ((K4.alloc K4.size _).cell (p := ⟨be, oe + k3 * 3 + 2, none⟩) hlt14).trans cel⟩ | exact ⟨(K7.cell (p := ⟨BW, 0, none⟩) hBl).trans b0, (K7.cell (p := ⟨BW, 1, none⟩) hBl).trans b1, (K7.cell (p := ⟨be, oe + k3 * 3 + 2, none⟩) hlt14).trans cel⟩ | exact ⟨((K7.alloc K7.size _).cell (p := ⟨BW, 0, none⟩) hBl).trans b0, ((K7.alloc K7.size _).cell (p := ⟨BW, 1, none⟩) hBl).trans b1, ((K7.alloc K7.size _).cell (p := ⟨be, oe + k3 * 3 + 2, none⟩) hlt14).trans cel⟩ | exact ⟨(K18.cell (p := ⟨BW, 0, none⟩) hBl).trans b0, (K18.cell (p := ⟨BW, 1, none⟩) hBl).trans b1, (K18.cell (p := ⟨be, oe + k3 * 3 + 2, none⟩) hlt14).trans cel⟩ | exact ⟨(K18.cell (p := ⟨BW, 0, none⟩) hXB).trans b0, (K18.cell (p := ⟨BW, 1, none⟩) hXB).trans b1, (K18.cell (p := ⟨be, oe + k3 * 3 + 2, none⟩) hbeX).trans cel⟩
                        clear hK K hHeld
                        have hHeld := hHeld2
                        clear hHeld2
                        refine wpAnyH_ready (rs := [18]) (by kernel_rfl) (by simp) ?_
                        refine AllReadyH.cons rfl (fun K hK => ?_) AllReadyH.nil
                        rw [if_pos (by kernel_rfl)]
                        have N18 := new_below w7 (.cells #[.slice (some ⟨g7, 0, none⟩) (m.o.s.length + 1) c7, .int .i64 cc] 109)
                        have OS18 := own_on' (own_on' OQ14 K7 (Nat.le_refl _)) N18 (Nat.le_refl _)
                        refine wp_append_at _ _ 144 rfl X.heap.size 109 i2 (.agg #[.slice none 0 0, .int .i64 0]) 2 32 Try.underlying144 hj0 hj1 hj2 hj3 rfl (by omega) _ qs.length (wcells qs) rfl OS18 _ 1 1 [.slice (some ⟨g7, 0, none⟩) (m.o.s.length + 1) c7, .int .i64 cc] rfl rfl (two_at (heap_new w7 _)) (by simp [Value.oneCell', Value.cells]) (by unfold maxLen; omega) (by omega) (by have h1 := K7.size; have h2 := N18.size; omega) ?_
                        intro v18 w18 O18 G18 hl18
                        have hOb : ∀ g, Value.ownBlock u8 = some g → X.heap.size ≤ g := fun g hg => (own_blt OQ14 hg).1
                        have K18 : Below X.heap.size w15 w18 := (K7.mono hsz14).trans ((N18.mono (by have := K7.size; omega)).grown G18 (by have h1 := K7.size; have h2 := N18.size; omega) (fun g hg => hOb g hg))
                        try simp only [Act.put, List.getElem_toArray, List.getElem_cons_succ, List.getElem_cons_zero, List.setIfInBounds_toArray, List.set_cons_succ, List.set_cons_zero]
                        refine hK.out _ _ ?_ (fun hHeld2 => ?_)
                        · first | exact hHeld | exact ⟨(KA1.cell (p := ⟨BW, 0, none⟩) hBl).trans b0, (KA1.cell (p := ⟨BW, 1, none⟩) hBl).trans b1, (KA1.cell (p := ⟨be, oe + k3 * 3 + 2, none⟩) hlt14).trans cel⟩ | exact ⟨(KB1.cell (p := ⟨BW, 0, none⟩) hBl).trans b0, (KB1.cell (p := ⟨BW, 1, none⟩) hBl).trans b1, (KB1.cell (p := ⟨be, oe + k3 * 3 + 2, none⟩) hlt14).trans cel⟩ | exact ⟨(KA2.cell (p := ⟨BW, 0, none⟩) hBl).trans b0, (KA2.cell (p := ⟨BW, 1, none⟩) hBl).trans b1, (KA2.cell (p := ⟨be, oe + k3 * 3 + 2, none⟩) hlt14).trans cel⟩ | exact ⟨(KB2.cell (p := ⟨BW, 0, none⟩) hBl).trans b0, (KB2.cell (p := ⟨BW, 1, none⟩) hBl).trans b1, (KB2.cell (p := ⟨be, oe + k3 * 3 + 2, none⟩) hlt14).trans cel⟩ | exact ⟨(K4.cell (p := ⟨BW, 0, none⟩) hBl).trans b0, (K4.cell (p := ⟨BW, 1, none⟩) hBl).trans b1, (K4.cell (p := ⟨be, oe + k3 * 3 + 2, none⟩) hlt14).trans cel⟩ | exact ⟨((K4.alloc K4.size _).cell (p := ⟨BW, 0, none⟩) hBl).trans b0, ((K4.alloc K4.size _).cell (p := ⟨BW, 1, none⟩) hBl).trans b1, ((K4.alloc K4.size _).cell (p := ⟨be, oe + k3 * 3 + 2, none⟩) hlt14).trans cel⟩ | exact ⟨(K7.cell (p := ⟨BW, 0, none⟩) hBl).trans b0, (K7.cell (p := ⟨BW, 1, none⟩) hBl).trans b1, (K7.cell (p := ⟨be, oe + k3 * 3 + 2, none⟩) hlt14).trans cel⟩ | exact ⟨((K7.alloc K7.size _).cell (p := ⟨BW, 0, none⟩) hBl).trans b0, ((K7.alloc K7.size _).cell (p := ⟨BW, 1, none⟩) hBl).trans b1, ((K7.alloc K7.size _).cell (p := ⟨be, oe + k3 * 3 + 2, none⟩) hlt14).trans cel⟩ | exact ⟨(K18.cell (p := ⟨BW, 0, none⟩) hBl).trans b0, (K18.cell (p := ⟨BW, 1, none⟩) hBl).trans b1, (K18.cell (p := ⟨be, oe + k3 * 3 + 2, none⟩) hlt14).trans cel⟩ | exact ⟨(K18.cell (p := ⟨BW, 0, none⟩) hXB).trans b0, (K18.cell (p := ⟨BW, 1, none⟩) hXB).trans b1, (K18.cell (p := ⟨be, oe + k3 * 3 + 2, none⟩) hbeX).trans cel⟩
                        clear hK K hHeld
                        have hHeld := hHeld2
                        clear hHeld2
                        refine wpAnyH_ready (rs := [19]) (by kernel_rfl) (by simp) ?_
                        refine AllReadyH.cons rfl (fun K hK => ?_) AllReadyH.nil
                        go_simp
                        refine hK.out _ _ ?_ (fun hHeld2 => ?_)
                        · first | exact hHeld | exact ⟨(KA1.cell (p := ⟨BW, 0, none⟩) hBl).trans b0, (KA1.cell (p := ⟨BW, 1, none⟩) hBl).trans b1, (KA1.cell (p := ⟨be, oe + k3 * 3 + 2, none⟩) hlt14).trans cel⟩ | exact ⟨(KB1.cell (p := ⟨BW, 0, none⟩) hBl).trans b0, (KB1.cell (p := ⟨BW, 1, none⟩) hBl).trans b1, (KB1.cell (p := ⟨be, oe + k3 * 3 + 2, none⟩) hlt14).trans cel⟩ | exact ⟨(KA2.cell (p := ⟨BW, 0, none⟩) hBl).trans b0, (KA2.cell (p := ⟨BW, 1, none⟩) hBl).trans b1, (KA2.cell (p := ⟨be, oe + k3 * 3 + 2, none⟩) hlt14).trans cel⟩ | exact ⟨(KB2.cell (p := ⟨BW, 0, none⟩) hBl).trans b0, (KB2.cell (p := ⟨BW, 1, none⟩) hBl).trans b1, (KB2.cell (p := ⟨be, oe + k3 * 3 + 2, none⟩) hlt14).trans cel⟩ | exact ⟨(K4.cell (p := ⟨BW, 0, none⟩) hBl).trans b0, (K4.cell (p := ⟨BW, 1, none⟩) hBl).trans b1, (K4.cell (p := ⟨be, oe + k3 * 3 + 2, none⟩) hlt14).trans cel⟩ | exact ⟨((K4.alloc K4.size _).cell (p := ⟨BW, 0, none⟩) hBl).trans b0, ((K4.alloc K4.size _).cell (p := ⟨BW, 1, none⟩) hBl).trans b1, ((K4.alloc K4.size _).cell (p := ⟨be, oe + k3 * 3 + 2, none⟩) hlt14).trans cel⟩ | exact ⟨(K7.cell (p := ⟨BW, 0, none⟩) hBl).trans b0, (K7.cell (p := ⟨BW, 1, none⟩) hBl).trans b1, (K7.cell (p := ⟨be, oe + k3 * 3 + 2, none⟩) hlt14).trans cel⟩ | exact ⟨((K7.alloc K7.size _).cell (p := ⟨BW, 0, none⟩) hBl).trans b0, ((K7.alloc K7.size _).cell (p := ⟨BW, 1, none⟩) hBl).trans b1, ((K7.alloc K7.size _).cell (p := ⟨be, oe + k3 * 3 + 2, none⟩) hlt14).trans cel⟩ | exact ⟨(K18.cell (p := ⟨BW, 0, none⟩) hBl).trans b0, (K18.cell (p := ⟨BW, 1, none⟩) hBl).trans b1, (K18.cell (p := ⟨be, oe + k3 * 3 + 2, none⟩) hlt14).trans cel⟩ | exact ⟨(K18.cell (p := ⟨BW, 0, none⟩) hXB).trans b0, (K18.cell (p := ⟨BW, 1, none⟩) hXB).trans b1, (K18.cell (p := ⟨be, oe + k3 * 3 + 2, none⟩) hbeX).trans cel⟩
                        clear hK K hHeld
                        have hHeld := hHeld2
                        clear hHeld2
                        refine wpAnyH_done (by kernel_rfl) ?_ _
                        clear hHeld
                        have eL : (ovr m.o p.co q2).s.length = m.o.s.length + 1 := by simp [ovr]
                        have eC : (ovr m.o p.co q2).c = cc := hcc
                        have O19 : Hid (w18.ownsRow X.heap.size 109 2 v18 (qs ++ [(⟨g7, c7, ovr m.o p.co q2⟩ : Pw)]).length (wcells (qs ++ [(⟨g7, c7, ovr m.o p.co q2⟩ : Pw)]))) := by
                          have e1 : (qs ++ [(⟨g7, c7, ovr m.o p.co q2⟩ : Pw)]).length = qs.length + 1 := by simp
                          have e2 : wcells (qs ++ [⟨g7, c7, ovr m.o p.co q2⟩]) = wcells qs ++ [.slice (some ⟨g7, 0, none⟩) (m.o.s.length + 1) c7, .int .i64 cc] := by rw [wcells_append]; simp [wcells, Pw.v, eL, eC]
                          show World.ownsRow _ _ _ _ _ _ _
                          rw [e1, e2]
                          exact O18
                        have DS := own_on' (own_on' DQ14 K7 (Nat.le_refl _)) N18 (Nat.le_refl _)
                        have D19 : Hid (w18.ownsRow (w.heap.size + 1) 3 1 (.slice aD2 d2.length cD2) d2.length (zc d2)) := own_kept DS G18 (rows_apart DS OS18 (by decide))
                        have Q19 : Aside (∀ p' ∈ qs ++ [(⟨g7, c7, ovr m.o p.co q2⟩ : Pw)], w18.ownsRow (w.heap.size + 1) 3 1 p'.v p'.o.s.length (zc p'.o.s) ∧ 0 < p'.o.s.length ∧ (Value.slice aD2 d2.length cD2).ownBlock ≠ some p'.g) := by
                          intro p' hp'
                          rcases List.mem_append.1 hp' with h | h
                          · obtain ⟨h1, h2, h3⟩ := HQ14.out p' h
                            have hs := own_on' (own_on' h1 K7 (Nat.le_refl _)) N18 (Nat.le_refl _)
                            exact ⟨own_kept hs G18 (rows_apart hs OS18 (by decide)), h2, h3⟩
                          · simp at h
                            subst h
                            have e3 : zc (ovr m.o p.co q2).s = [] ++ zc m.o.s ++ [.int .i64 q2] := by simp [zc, ovr]
                            have e4 : (ovr m.o p.co q2).s.length = 0 + m.o.s.length + 1 := by simp [ovr]
                            have hs0 : w7.ownsRow (w.heap.size + 1) 3 1 (.slice (some ⟨g7, 0, none⟩) (ovr m.o p.co q2).s.length c7) (ovr m.o p.co q2).s.length (zc (ovr m.o p.co q2).s) := by
                              rw [e3, e4]
                              exact own_base O7 (by omega)
                            have hs := own_on' hs0 N18 (Nat.le_refl _)
                            refine ⟨own_kept hs G18 (rows_apart hs OS18 (by decide)), by simp [ovr], fun h => ?_⟩
                            have h9 : g7 < w15.heap.size := hDl _ h
                            omega
                        have KZ19 : Below X.heap.size W2 w18 := KZ14.trans K18
                        have HT3 : Aside ((qs ++ [(⟨g7, c7, ovr m.o p.co q2⟩ : Pw)]).map Pw.o = pushF d2 m.o (psn.map Pw.o) (E.take (k3 + 1))) := by
                          show _ = _
                          rw [HT2.out, List.map_append]
                          rfl
                        have hql2 : (qs ++ [(⟨g7, c7, ovr m.o p.co q2⟩ : Pw)]).length ≤ psn.length + (k3 + 1) := by simp; omega
                        clear eL eC
                        go_wp2
                        go_roundw
                        case rel => exact ⟨k3 + 1, _, by go_num, by omega, KZ19, O19, D19, Q19, HT3, hql2⟩
                        case measure => simp [intOf]; omega
                · have hk4 : k3 = E.length := by omega
                  have HJ2 : Aside (JSt E a (qs.map Pw.o) d2 (setG G yy m.o)) := by
                    have h1 := HJ.out
                    have h2 := HPu.out
                    rw [hk4, List.take_length] at h2
                    show JSt _ _ _ _ _
                    rw [h2]
                    exact h1
                  have hck := HJ2.out.clock
                  have hdl2 := HD2.out
                  have HSp2 : Aside (Sp E a b (w.heap.size + 1) (((stn E a).length + 1 - d2.length) * 201 + qs.length) wr u8 (.slice aD2 d2.length cD2)) := ⟨qs, d2, _, HJ2.out, HDM.out, own_base OQ.out hbX, DQ.out, HQ.out, by omega, rfl⟩
                  have hgk := HG.out.2
                  have hR13 := kept KZ (by omega) hR12
                  clear HJ
                  go_wp2
                  go_roundg (((stn E a).length + 1 - d2.length) * 201 + qs.length)
                  case measure => omega
                  case rel => exact ⟨LWz, hR13, HSp2⟩

end Tf
end Go.Proofs.Ytmhongcbgokilad

/- BestSeat of the program and of the model. -/
import Derived.Test.YtiollklighmojadSeGap
namespace Go.Proofs.Ytiollklighmojad
namespace Se
open Go.ChangeShapes Go.WideShapes Go.ChangeAt Go.RowKit
open Tn (Hd St trV trB Stops runsB okB)
open Pk (new_below join_below cell_at heap_new frozen_at lt_of kept heap_old Drawn info_of own_form own_below Room)
set_option linter.unusedSimpArgs false
set_option linter.unusedVariables false

def zH : Hl := ⟨0, 0, 0, 0, 0, 0, 0⟩

/-- The first of the first k whose measure is least. -/
def bi (s : List Hl) (G : Hl → Int) : Nat → Nat
  | 0 => 0
  | k + 1 => if G (s.getD k zH) < G (s.getD (bi s G k) zH) then k else bi s G k

theorem bi_lt (s : List Hl) (G : Hl → Int) (k : Nat) : bi s G (k + 1) ≤ k := by
  induction k with
  | zero => unfold bi; split <;> simp [bi]
  | succ k ih => unfold bi; split <;> omega

theorem bi_one (s : List Hl) (G : Hl → Int) : bi s G 1 = 0 := Nat.le_zero.1 (bi_lt s G 0)

theorem getD_is (s : List Hl) (k : Nat) (h : k < s.length) : s.getD k zH = s[k] := by simp [List.getD, h]

theorem bi_step (s : List Hl) (G : Hl → Int) (k : Nat) (hk : k < s.length) (j : Nat) (hj : j < s.length) (e : j = bi s G k) : bi s G (k + 1) = if G s[k] < G s[j] then k else j := by
  rw [bi, ← e, getD_is s k hk, getD_is s j hj]

/-- The tightest. -/
def bestP (s : List Hl) (G : Hl → Int) : Hl := s.getD (bi s G s.length) zH

def At0 (w : World) (b k : Nat) (p : Hl) : Prop := w.cell? ⟨b, k * 7, none⟩ = some (.int .i64 p.tr) ∧ w.cell? ⟨b, k * 7 + 1, none⟩ = some (.int .i64 p.dy) ∧ w.cell? ⟨b, k * 7 + 2, none⟩ = some (.int .i64 p.co) ∧ w.cell? ⟨b, k * 7 + 3, none⟩ = some (.int .i64 p.se) ∧ w.cell? ⟨b, k * 7 + 4, none⟩ = some (.int .i64 p.ba) ∧ w.cell? ⟨b, k * 7 + 5, none⟩ = some (.int .i64 p.be) ∧ w.cell? ⟨b, k * 7 + 6, none⟩ = some (.int .i64 p.od)

theorem own_cap {w : World} {base e n g cap : Nat} {xs : List Value} (h : w.ownsRow base e 7 (.slice (some ⟨g, 0, none⟩) n cap) n xs) : n ≤ cap ∧ cap ≤ maxLen := by
  obtain ⟨hl, h2⟩ := h
  rcases h2 with ⟨hv, h0⟩ | ⟨g', cap', cur, hv, hg, hh, h1, h3, h4, h5⟩
  · cases hv
  · simp only [Value.slice.injEq] at hv
    obtain ⟨-, -, rfl⟩ := hv
    exact ⟨h1, h3⟩

theorem own_at0 {w : World} {base e : Nat} {l : List Hl} {g cap : Nat} (h : w.ownsRow base e 7 (.slice (some ⟨g, 0, none⟩) l.length cap) l.length (hcells l)) (k : Nat) (hk : k < l.length) : At0 w g k l[k] := by
  obtain ⟨g', cap', hv, -, hg, hc, -⟩ := own_cell h (by omega)
  simp only [Value.slice.injEq, Option.some.injEq, Addr.mk.injEq] at hv
  obtain ⟨⟨rfl, -⟩, -⟩ := hv
  exact ⟨hc (k * 7) _ ((hcells_get l k 0 hk (by omega)).trans rfl), hc (k * 7 + 1) _ ((hcells_get l k 1 hk (by omega)).trans rfl), hc (k * 7 + 2) _ ((hcells_get l k 2 hk (by omega)).trans rfl), hc (k * 7 + 3) _ ((hcells_get l k 3 hk (by omega)).trans rfl), hc (k * 7 + 4) _ ((hcells_get l k 4 hk (by omega)).trans rfl), hc (k * 7 + 5) _ ((hcells_get l k 5 hk (by omega)).trans rfl), hc (k * 7 + 6) _ ((hcells_get l k 6 hk (by omega)).trans rfl)⟩

theorem At0.on {w w1 : World} {b k B : Nat} {p : Hl} (h : At0 w b k p) (L : Below B w w1) (hb : b < B) : At0 w1 b k p := by
  unfold At0
  rw [L.cell (p := ⟨b, k * 7, none⟩) hb, L.cell (p := ⟨b, k * 7 + 1, none⟩) hb, L.cell (p := ⟨b, k * 7 + 2, none⟩) hb, L.cell (p := ⟨b, k * 7 + 3, none⟩) hb, L.cell (p := ⟨b, k * 7 + 4, none⟩) hb, L.cell (p := ⟨b, k * 7 + 5, none⟩) hb, L.cell (p := ⟨b, k * 7 + 6, none⟩) hb]
  exact h

theorem mem_all {t : Hd} {ls : List St} {day x y : Int} {l : List Hl} {p : Hl} (ha : askB t ls day x y = true) (h : p ∈ freeL l t day x y) : Wf p ∧ p.ba = x ∧ p.be = y := by
  have h1 := (List.mem_filter.1 h).1
  refine ⟨all_wf ha p h1, ?_⟩
  obtain ⟨i, j, -, -, rfl⟩ := mem_pre h1
  exact ⟨rfl, rfl⟩

theorem ask_is {t : Hd} {ls : List St} {day x y : Int} (ha : askB t ls day x y = true) : 0 ≤ x ∧ x < y ∧ y < (ls.length : Int) ∧ ls.length ≤ 20 ∧ runsB t ls day = true := by
  unfold askB at ha
  rw [Bool.and_eq_true, st_is] at ha
  obtain ⟨h1, h2, h3, h4⟩ := ha
  obtain ⟨-, -, -, -, -, h5⟩ := run_is h1
  exact ⟨h2, h3, h4, h5, h1⟩

set_option maxRecDepth 100000 in
set_option maxHeartbeats 8000000 in
theorem specBest_val (la : Option Addr) (l : List Hl) (lc : Nat) (t : Hd) (ta : Option Addr) (ls : List St) (tc : Nat) (day x y : Int) (w : World) (hl : l.length ≤ 1048576) (hls : ls.length ≤ maxLen) (I : Holds w la l) (J : Stops w ta ls) (hwf : Wfs l) :
    Calls Try.prog 50 #[.slice la l.length lc, trV t ta ls.length tc, .int .i64 day, .int .i64 x, .int .i64 y] w fun e w' => e = .returned (.tuple #[.int .i64 (bestP (resL l t ls day x y) (gapV l ls.length)).co, .int .i64 (bestP (resL l t ls day x y) (gapV l ls.length)).se, .bool (decide (0 < (resL l t ls day x y).length))]) ∧ Below w.heap.size w w' := by
  have hln := res_len l t ls day x y
  have N := new_below w (trB t ta ls.length tc 26)
  have HB : Hid (Tbx (w.alloc (trB t ta ls.length tc 26)) w.heap.size t ta ls.length tc) := Tbx.of (heap_new _ _)
  have hb0 : w.heap.size < (w.alloc (trB t ta ls.length tc 26)).heap.size := by simp
  have HA : Hid (∀ _ : Unit, _) := fun _ => specAsked_val t ta ls tc day x y _ hls (J.on N)
  by_cases ha : askB t ls day x y = true
  · rw [ha] at HA
    obtain ⟨a1, a2, a3, a4, a5⟩ := ask_is ha
    obtain ⟨i1, i2, i3, i4, i5⟩ := run_is a5
    have HQ : Hid (∀ wx, Below w.heap.size w wx → _) := fun wx (L : Below w.heap.size w wx) => specAll_val t ta ls.length tc day x y t.co.toNat t.se.toNat wx (by omega) (by omega) (by omega) (by omega) la l lc (by unfold maxLen; omega) (I.on L)
    have hv : resL l t ls day x y = freeL l t day x y := if_pos ha
    have HG : Hid (∀ p wx, p ∈ freeL l t day x y → Below w.heap.size w wx → Calls Try.prog 101 #[.slice la l.length lc, .agg #[.int .i64 t.id, .int .i64 t.dy, .int .i64 t.co, .int .i64 t.se, .slice ta ls.length tc], lgV p] wx fun e w' => e = .returned (.int .i64 (gapV l ls.length p)) ∧ Below wx.heap.size wx w') := by
      intro p wx hp L
      obtain ⟨-, e1, e2⟩ := mem_all ha hp
      exact specGap_val la l lc t ta ls tc p wx (by unfold maxLen; omega) (by omega) (by omega) (by omega) a4 (I.on L)
    rw [hv] at hln ⊢
    clear ha i1 i2 i3 i4 i5 hv a1 a2 a3 a4 a5
    generalize freeL l t day x y = s at *
    generalize gapV l ls.length = G at *
    by_cases h0 : s.length = 0
    · have e0 : s = [] := List.eq_nil_of_length_eq_zero h0
      subst e0
      clear hln h0 HG
      go_enter Try.func50, Try.ntmps50
      go_wp2_with fail
      refine (HA.out ()).mono ?_
      rintro e w1 ⟨rfl, L1⟩
      have K1 := join_below N L1
      obtain ⟨x0, x1, x2, x3, x4⟩ := HB.out.on L1 hb0
      go_wp2_with fail
      refine (HQ.out _ K1).mono ?_
      rintro e w2 ⟨v, rfl, O2, L2⟩
      obtain ⟨va, vc, rfl, -⟩ := own_form O2
      go_wp2
      refine bodyPost_ret (results_tmp3 rfl _ _ _) rfl ?_
      exact ⟨rfl, join_below K1 L2⟩
    · have hp : 1 ≤ s.length := by omega
      have e0 : ((s.length : Int) == 0) = false := beq_eq_false_iff_ne.2 (by omega)
      have HV : Hid (decide (0 < s.length) = true) := decide_eq_true hp
      rw [HV.out]
      have HBP : Hid (∀ j (hj : j < s.length), j = bi s G s.length → bestP s G = s[j]) := by
        intro j hj e
        unfold bestP
        rw [← e, getD_is s j hj]
      generalize bestP s G = Z at *
      clear h0
      go_enter Try.func50, Try.ntmps50
      go_wp2_with fail
      refine (HA.out ()).mono ?_
      rintro e w1 ⟨rfl, L1⟩
      have K1 := join_below N L1
      obtain ⟨x0, x1, x2, x3, x4⟩ := HB.out.on L1 hb0
      go_wp2_with fail
      refine (HQ.out _ K1).mono ?_
      rintro e W2 ⟨v, rfl, O2, L2⟩
      have K2 := join_below K1 L2
      have HB2 : Hid (Tbx W2 w.heap.size t ta ls.length tc) := (HB.out.on L1 hb0).on L2 (Nat.lt_of_lt_of_le hb0 L1.size)
      have hb2 : w.heap.size < W2.heap.size := by have h1 := L1.size; have h2 := L2.size; omega
      obtain ⟨g, vc, rfl, -, hg, -, -⟩ := own_cell O2 (by omega)
      have HAT : Hid (∀ k (hk : k < s.length) wx, Below W2.heap.size W2 wx → At0 wx g k s[k]) := fun k hk wx L => (own_at0 O2 k hk).on L hg
      clear HQ x0 x1 x2 x3 x4 HA HB N L1 L2 K1 hb0 O2
      go_wp2
      go_loopw [14, 15] (fun jj ii wr => ∃ (j i : Nat), j < s.length ∧ 1 ≤ i ∧ i ≤ s.length ∧ jj = .int .i64 j ∧ ii = .int .i64 i ∧ Below W2.heap.size W2 wr ∧ Hid (j = bi s G i)) (fun _ ii _ => s.length - (intOf ii).toNat)
      case atStart => exact ⟨0, 1, by omega, by omega, hp, rfl, rfl, Below.refl _ _, (bi_one s G).symm⟩
      case round =>
        obtain ⟨j, i, hj, hi1, hi, rfl, rfl, LZ, HJ⟩ := hrel
        have HQA : Hid (∀ wx, Below W2.heap.size W2 wx → At0 wx g j s[j]) := fun wx L => HAT.out j hj wx L
        by_cases hin : i < s.length
        · have HPA : Hid (∀ wx, Below W2.heap.size W2 wx → At0 wx g i s[i]) := fun wx L => HAT.out i hin wx L
          have HGp : Hid (∀ wx, Below W2.heap.size W2 wx → _) := fun wx (L : Below W2.heap.size W2 wx) => HG.out s[i] wx (List.getElem_mem hin) (join_below K2 L)
          have HGq : Hid (∀ wx, Below W2.heap.size W2 wx → _) := fun wx (L : Below W2.heap.size W2 wx) => HG.out s[j] wx (List.getElem_mem hj) (join_below K2 L)
          have HST : Hid (_) := bi_step s G i hin j hj HJ.out
          generalize s[i] = p at *
          generalize s[j] = q at *
          by_cases hc : G p < G q
          · have hd : decide (G p < G q) = true := decide_eq_true hc
            rw [if_pos hc] at HST
            clear hc HJ
            generalize G p = gp at *
            generalize G q = gq at *
            go_wp2
            have K4 : Below W2.heap.size W2 (World.drew wr) := LZ.drew
            refine wp_region_held_drew (S := (fun w' => Tbx w' w.heap.size t ta ls.length tc ∧ At0 w' g i p ∧ At0 w' g j q)) (by kernel_rfl) ?_ (fun hHeld => ?_)
            · exact ⟨HB2.out.on K4 hb2, HPA.out _ K4, HQA.out _ K4⟩
            refine wpAnyH_take (i := 0) (v := .slice la l.length lc) rfl (by kernel_rfl) (by kernel_rfl) (by kernel_rfl) (fun _ _ _ h => h) (Or.inl ⟨by kernel_rfl, fun w hSw => by first | (go_simp; done) | (dsimp only at hSw; obtain ⟨⟨t0, t1, t2, t3, t4⟩, ⟨x0, x1, x2, x3, x4, x5, x6⟩, ⟨y0, y1, y2, y3, y4, y5, y6⟩⟩ := hSw; go_simp; done) | rfl⟩) (by assumption) ?_
            simp only [Act.put, List.getElem_toArray, List.getElem_cons_succ, List.getElem_cons_zero, List.setIfInBounds_toArray, List.set_cons_succ, List.set_cons_zero]
            refine wpAnyH_take (i := 1) (v := .agg #[.int .i64 t.id, .int .i64 t.dy, .int .i64 t.co, .int .i64 t.se, .slice ta ls.length tc]) rfl (by kernel_rfl) (by kernel_rfl) (by kernel_rfl) (fun _ _ _ h => h) (Or.inl ⟨by kernel_rfl, fun w hSw => by first | (go_simp; done) | (dsimp only at hSw; obtain ⟨⟨t0, t1, t2, t3, t4⟩, ⟨x0, x1, x2, x3, x4, x5, x6⟩, ⟨y0, y1, y2, y3, y4, y5, y6⟩⟩ := hSw; go_simp; done) | rfl⟩) (by assumption) ?_
            simp only [Act.put, List.getElem_toArray, List.getElem_cons_succ, List.getElem_cons_zero, List.setIfInBounds_toArray, List.set_cons_succ, List.set_cons_zero]
            refine wpAnyH_take (i := 2) (v := .slice (some ⟨g, 0, none⟩) s.length vc) rfl (by kernel_rfl) (by kernel_rfl) (by kernel_rfl) (fun _ _ _ h => h) (Or.inl ⟨by kernel_rfl, fun w hSw => by first | (go_simp; done) | (dsimp only at hSw; obtain ⟨⟨t0, t1, t2, t3, t4⟩, ⟨x0, x1, x2, x3, x4, x5, x6⟩, ⟨y0, y1, y2, y3, y4, y5, y6⟩⟩ := hSw; go_simp; done) | rfl⟩) (by assumption) ?_
            simp only [Act.put, List.getElem_toArray, List.getElem_cons_succ, List.getElem_cons_zero, List.setIfInBounds_toArray, List.set_cons_succ, List.set_cons_zero]
            refine wpAnyH_take (i := 3) (v := .int .i64 i) rfl (by kernel_rfl) (by kernel_rfl) (by kernel_rfl) (fun _ _ _ h => h) (Or.inl ⟨by kernel_rfl, fun w hSw => by first | (go_simp; done) | (dsimp only at hSw; obtain ⟨⟨t0, t1, t2, t3, t4⟩, ⟨x0, x1, x2, x3, x4, x5, x6⟩, ⟨y0, y1, y2, y3, y4, y5, y6⟩⟩ := hSw; go_simp; done) | rfl⟩) (by assumption) ?_
            simp only [Act.put, List.getElem_toArray, List.getElem_cons_succ, List.getElem_cons_zero, List.setIfInBounds_toArray, List.set_cons_succ, List.set_cons_zero]
            refine wpAnyH_take (i := 4) (v := .pointer (some ⟨g, i * 7, none⟩)) rfl (by kernel_rfl) (by kernel_rfl) (by kernel_rfl) (fun _ _ _ h => h) (Or.inl ⟨by kernel_rfl, fun w hSw => by first | (go_simp; done) | (dsimp only at hSw; obtain ⟨⟨t0, t1, t2, t3, t4⟩, ⟨x0, x1, x2, x3, x4, x5, x6⟩, ⟨y0, y1, y2, y3, y4, y5, y6⟩⟩ := hSw; go_simp; done) | rfl⟩) (by assumption) ?_
            simp only [Act.put, List.getElem_toArray, List.getElem_cons_succ, List.getElem_cons_zero, List.setIfInBounds_toArray, List.set_cons_succ, List.set_cons_zero]
            refine wpAnyH_take (i := 5) (v := .agg #[.int .i64 p.tr, .int .i64 p.dy, .int .i64 p.co, .int .i64 p.se, .int .i64 p.ba, .int .i64 p.be, .int .i64 p.od]) rfl (by kernel_rfl) (by kernel_rfl) (by kernel_rfl) (fun _ _ _ h => h) (Or.inl ⟨by kernel_rfl, fun w hSw => by first | (go_simp; done) | (dsimp only at hSw; obtain ⟨⟨t0, t1, t2, t3, t4⟩, ⟨x0, x1, x2, x3, x4, x5, x6⟩, ⟨y0, y1, y2, y3, y4, y5, y6⟩⟩ := hSw; go_simp; done) | rfl⟩) (by assumption) ?_
            simp only [Act.put, List.getElem_toArray, List.getElem_cons_succ, List.getElem_cons_zero, List.setIfInBounds_toArray, List.set_cons_succ, List.set_cons_zero]
            refine wpAnyH_take (i := 7) (v := .slice la l.length lc) rfl (by kernel_rfl) (by kernel_rfl) (by kernel_rfl) (fun _ _ _ h => h) (Or.inl ⟨by kernel_rfl, fun w hSw => by first | (go_simp; done) | (dsimp only at hSw; obtain ⟨⟨t0, t1, t2, t3, t4⟩, ⟨x0, x1, x2, x3, x4, x5, x6⟩, ⟨y0, y1, y2, y3, y4, y5, y6⟩⟩ := hSw; go_simp; done) | rfl⟩) (by assumption) ?_
            simp only [Act.put, List.getElem_toArray, List.getElem_cons_succ, List.getElem_cons_zero, List.setIfInBounds_toArray, List.set_cons_succ, List.set_cons_zero]
            refine wpAnyH_take (i := 8) (v := .agg #[.int .i64 t.id, .int .i64 t.dy, .int .i64 t.co, .int .i64 t.se, .slice ta ls.length tc]) rfl (by kernel_rfl) (by kernel_rfl) (by kernel_rfl) (fun _ _ _ h => h) (Or.inl ⟨by kernel_rfl, fun w hSw => by first | (go_simp; done) | (dsimp only at hSw; obtain ⟨⟨t0, t1, t2, t3, t4⟩, ⟨x0, x1, x2, x3, x4, x5, x6⟩, ⟨y0, y1, y2, y3, y4, y5, y6⟩⟩ := hSw; go_simp; done) | rfl⟩) (by assumption) ?_
            simp only [Act.put, List.getElem_toArray, List.getElem_cons_succ, List.getElem_cons_zero, List.setIfInBounds_toArray, List.set_cons_succ, List.set_cons_zero]
            refine wpAnyH_take (i := 9) (v := .slice (some ⟨g, 0, none⟩) s.length vc) rfl (by kernel_rfl) (by kernel_rfl) (by kernel_rfl) (fun _ _ _ h => h) (Or.inl ⟨by kernel_rfl, fun w hSw => by first | (go_simp; done) | (dsimp only at hSw; obtain ⟨⟨t0, t1, t2, t3, t4⟩, ⟨x0, x1, x2, x3, x4, x5, x6⟩, ⟨y0, y1, y2, y3, y4, y5, y6⟩⟩ := hSw; go_simp; done) | rfl⟩) (by assumption) ?_
            simp only [Act.put, List.getElem_toArray, List.getElem_cons_succ, List.getElem_cons_zero, List.setIfInBounds_toArray, List.set_cons_succ, List.set_cons_zero]
            refine wpAnyH_take (i := 10) (v := .int .i64 j) rfl (by kernel_rfl) (by kernel_rfl) (by kernel_rfl) (fun _ _ _ h => h) (Or.inl ⟨by kernel_rfl, fun w hSw => by first | (go_simp; done) | (dsimp only at hSw; obtain ⟨⟨t0, t1, t2, t3, t4⟩, ⟨x0, x1, x2, x3, x4, x5, x6⟩, ⟨y0, y1, y2, y3, y4, y5, y6⟩⟩ := hSw; go_simp; done) | rfl⟩) (by assumption) ?_
            simp only [Act.put, List.getElem_toArray, List.getElem_cons_succ, List.getElem_cons_zero, List.setIfInBounds_toArray, List.set_cons_succ, List.set_cons_zero]
            refine wpAnyH_take (i := 11) (v := .pointer (some ⟨g, j * 7, none⟩)) rfl (by kernel_rfl) (by kernel_rfl) (by kernel_rfl) (fun _ _ _ h => h) (Or.inl ⟨by kernel_rfl, fun w hSw => by first | (go_simp; done) | (dsimp only at hSw; obtain ⟨⟨t0, t1, t2, t3, t4⟩, ⟨x0, x1, x2, x3, x4, x5, x6⟩, ⟨y0, y1, y2, y3, y4, y5, y6⟩⟩ := hSw; go_simp; done) | rfl⟩) (by assumption) ?_
            simp only [Act.put, List.getElem_toArray, List.getElem_cons_succ, List.getElem_cons_zero, List.setIfInBounds_toArray, List.set_cons_succ, List.set_cons_zero]
            refine wpAnyH_take (i := 12) (v := .agg #[.int .i64 q.tr, .int .i64 q.dy, .int .i64 q.co, .int .i64 q.se, .int .i64 q.ba, .int .i64 q.be, .int .i64 q.od]) rfl (by kernel_rfl) (by kernel_rfl) (by kernel_rfl) (fun _ _ _ h => h) (Or.inl ⟨by kernel_rfl, fun w hSw => by first | (go_simp; done) | (dsimp only at hSw; obtain ⟨⟨t0, t1, t2, t3, t4⟩, ⟨x0, x1, x2, x3, x4, x5, x6⟩, ⟨y0, y1, y2, y3, y4, y5, y6⟩⟩ := hSw; go_simp; done) | rfl⟩) (by assumption) ?_
            simp only [Act.put, List.getElem_toArray, List.getElem_cons_succ, List.getElem_cons_zero, List.setIfInBounds_toArray, List.set_cons_succ, List.set_cons_zero]
            refine wpAnyH_ready (rs := [6]) (by kernel_rfl) (by simp) ?_
            refine AllReadyH.cons rfl (fun K hK => ?_) AllReadyH.nil
            go_simp
            go_wp2_with (go_at_call 101; (with_reducible refine (HGp.out _ K4).mono ?_); rintro e w5 ⟨rfl, L5⟩; have K5 : Below W2.heap.size W2 w5 := K4.trans (L5.mono K4.size))
            refine hK.out _ _ ?_ (fun hHeld2 => ?_)
            · first | exact ⟨HB2.out.on K6 hb2, HPA.out _ K6, HQA.out _ K6⟩ | exact ⟨HB2.out.on K5 hb2, HPA.out _ K5, HQA.out _ K5⟩
            clear hK K hHeld
            have hHeld := hHeld2
            clear hHeld2
            refine wpAnyH_ready (rs := [13]) (by kernel_rfl) (by simp) ?_
            refine AllReadyH.cons rfl (fun K hK => ?_) AllReadyH.nil
            go_simp
            go_wp2_with (go_at_call 101; (with_reducible refine (HGq.out _ K5).mono ?_); rintro e w6 ⟨rfl, L6⟩; have K6 : Below W2.heap.size W2 w6 := K5.trans (L6.mono K5.size))
            refine hK.out _ _ ?_ (fun hHeld2 => ?_)
            · first | exact ⟨HB2.out.on K6 hb2, HPA.out _ K6, HQA.out _ K6⟩ | exact ⟨HB2.out.on K5 hb2, HPA.out _ K5, HQA.out _ K5⟩
            clear hK K hHeld
            have hHeld := hHeld2
            clear hHeld2
            refine wpAnyH_take (i := 14) (v := .bool true) rfl (by kernel_rfl) (by kernel_rfl) (by kernel_rfl) (fun _ _ _ h => h) (Or.inl ⟨by kernel_rfl, fun w hSw => by first | (go_simp; done) | (dsimp only at hSw; obtain ⟨⟨t0, t1, t2, t3, t4⟩, ⟨x0, x1, x2, x3, x4, x5, x6⟩, ⟨y0, y1, y2, y3, y4, y5, y6⟩⟩ := hSw; go_simp; done) | rfl⟩) (by assumption) ?_
            simp only [Act.put, List.getElem_toArray, List.getElem_cons_succ, List.getElem_cons_zero, List.setIfInBounds_toArray, List.set_cons_succ, List.set_cons_zero]
            refine wpAnyH_done (by kernel_rfl) ?_ _
            clear hHeld
            have HE : Hid (i = bi s G (i + 1)) := HST.out.symm
            go_wp2
            go_roundw
            case rel => exact ⟨i, i + 1, hin, by omega, by omega, rfl, by go_num, K6, HE⟩
            case measure => simp [intOf]; omega
          · have hd : decide (G p < G q) = false := decide_eq_false hc
            rw [if_neg hc] at HST
            clear hc HJ
            generalize G p = gp at *
            generalize G q = gq at *
            go_wp2
            have K4 : Below W2.heap.size W2 (World.drew wr) := LZ.drew
            refine wp_region_held_drew (S := (fun w' => Tbx w' w.heap.size t ta ls.length tc ∧ At0 w' g i p ∧ At0 w' g j q)) (by kernel_rfl) ?_ (fun hHeld => ?_)
            · exact ⟨HB2.out.on K4 hb2, HPA.out _ K4, HQA.out _ K4⟩
            refine wpAnyH_take (i := 0) (v := .slice la l.length lc) rfl (by kernel_rfl) (by kernel_rfl) (by kernel_rfl) (fun _ _ _ h => h) (Or.inl ⟨by kernel_rfl, fun w hSw => by first | (go_simp; done) | (dsimp only at hSw; obtain ⟨⟨t0, t1, t2, t3, t4⟩, ⟨x0, x1, x2, x3, x4, x5, x6⟩, ⟨y0, y1, y2, y3, y4, y5, y6⟩⟩ := hSw; go_simp; done) | rfl⟩) (by assumption) ?_
            simp only [Act.put, List.getElem_toArray, List.getElem_cons_succ, List.getElem_cons_zero, List.setIfInBounds_toArray, List.set_cons_succ, List.set_cons_zero]
            refine wpAnyH_take (i := 1) (v := .agg #[.int .i64 t.id, .int .i64 t.dy, .int .i64 t.co, .int .i64 t.se, .slice ta ls.length tc]) rfl (by kernel_rfl) (by kernel_rfl) (by kernel_rfl) (fun _ _ _ h => h) (Or.inl ⟨by kernel_rfl, fun w hSw => by first | (go_simp; done) | (dsimp only at hSw; obtain ⟨⟨t0, t1, t2, t3, t4⟩, ⟨x0, x1, x2, x3, x4, x5, x6⟩, ⟨y0, y1, y2, y3, y4, y5, y6⟩⟩ := hSw; go_simp; done) | rfl⟩) (by assumption) ?_
            simp only [Act.put, List.getElem_toArray, List.getElem_cons_succ, List.getElem_cons_zero, List.setIfInBounds_toArray, List.set_cons_succ, List.set_cons_zero]
            refine wpAnyH_take (i := 2) (v := .slice (some ⟨g, 0, none⟩) s.length vc) rfl (by kernel_rfl) (by kernel_rfl) (by kernel_rfl) (fun _ _ _ h => h) (Or.inl ⟨by kernel_rfl, fun w hSw => by first | (go_simp; done) | (dsimp only at hSw; obtain ⟨⟨t0, t1, t2, t3, t4⟩, ⟨x0, x1, x2, x3, x4, x5, x6⟩, ⟨y0, y1, y2, y3, y4, y5, y6⟩⟩ := hSw; go_simp; done) | rfl⟩) (by assumption) ?_
            simp only [Act.put, List.getElem_toArray, List.getElem_cons_succ, List.getElem_cons_zero, List.setIfInBounds_toArray, List.set_cons_succ, List.set_cons_zero]
            refine wpAnyH_take (i := 3) (v := .int .i64 i) rfl (by kernel_rfl) (by kernel_rfl) (by kernel_rfl) (fun _ _ _ h => h) (Or.inl ⟨by kernel_rfl, fun w hSw => by first | (go_simp; done) | (dsimp only at hSw; obtain ⟨⟨t0, t1, t2, t3, t4⟩, ⟨x0, x1, x2, x3, x4, x5, x6⟩, ⟨y0, y1, y2, y3, y4, y5, y6⟩⟩ := hSw; go_simp; done) | rfl⟩) (by assumption) ?_
            simp only [Act.put, List.getElem_toArray, List.getElem_cons_succ, List.getElem_cons_zero, List.setIfInBounds_toArray, List.set_cons_succ, List.set_cons_zero]
            refine wpAnyH_take (i := 4) (v := .pointer (some ⟨g, i * 7, none⟩)) rfl (by kernel_rfl) (by kernel_rfl) (by kernel_rfl) (fun _ _ _ h => h) (Or.inl ⟨by kernel_rfl, fun w hSw => by first | (go_simp; done) | (dsimp only at hSw; obtain ⟨⟨t0, t1, t2, t3, t4⟩, ⟨x0, x1, x2, x3, x4, x5, x6⟩, ⟨y0, y1, y2, y3, y4, y5, y6⟩⟩ := hSw; go_simp; done) | rfl⟩) (by assumption) ?_
            simp only [Act.put, List.getElem_toArray, List.getElem_cons_succ, List.getElem_cons_zero, List.setIfInBounds_toArray, List.set_cons_succ, List.set_cons_zero]
            refine wpAnyH_take (i := 5) (v := .agg #[.int .i64 p.tr, .int .i64 p.dy, .int .i64 p.co, .int .i64 p.se, .int .i64 p.ba, .int .i64 p.be, .int .i64 p.od]) rfl (by kernel_rfl) (by kernel_rfl) (by kernel_rfl) (fun _ _ _ h => h) (Or.inl ⟨by kernel_rfl, fun w hSw => by first | (go_simp; done) | (dsimp only at hSw; obtain ⟨⟨t0, t1, t2, t3, t4⟩, ⟨x0, x1, x2, x3, x4, x5, x6⟩, ⟨y0, y1, y2, y3, y4, y5, y6⟩⟩ := hSw; go_simp; done) | rfl⟩) (by assumption) ?_
            simp only [Act.put, List.getElem_toArray, List.getElem_cons_succ, List.getElem_cons_zero, List.setIfInBounds_toArray, List.set_cons_succ, List.set_cons_zero]
            refine wpAnyH_take (i := 7) (v := .slice la l.length lc) rfl (by kernel_rfl) (by kernel_rfl) (by kernel_rfl) (fun _ _ _ h => h) (Or.inl ⟨by kernel_rfl, fun w hSw => by first | (go_simp; done) | (dsimp only at hSw; obtain ⟨⟨t0, t1, t2, t3, t4⟩, ⟨x0, x1, x2, x3, x4, x5, x6⟩, ⟨y0, y1, y2, y3, y4, y5, y6⟩⟩ := hSw; go_simp; done) | rfl⟩) (by assumption) ?_
            simp only [Act.put, List.getElem_toArray, List.getElem_cons_succ, List.getElem_cons_zero, List.setIfInBounds_toArray, List.set_cons_succ, List.set_cons_zero]
            refine wpAnyH_take (i := 8) (v := .agg #[.int .i64 t.id, .int .i64 t.dy, .int .i64 t.co, .int .i64 t.se, .slice ta ls.length tc]) rfl (by kernel_rfl) (by kernel_rfl) (by kernel_rfl) (fun _ _ _ h => h) (Or.inl ⟨by kernel_rfl, fun w hSw => by first | (go_simp; done) | (dsimp only at hSw; obtain ⟨⟨t0, t1, t2, t3, t4⟩, ⟨x0, x1, x2, x3, x4, x5, x6⟩, ⟨y0, y1, y2, y3, y4, y5, y6⟩⟩ := hSw; go_simp; done) | rfl⟩) (by assumption) ?_
            simp only [Act.put, List.getElem_toArray, List.getElem_cons_succ, List.getElem_cons_zero, List.setIfInBounds_toArray, List.set_cons_succ, List.set_cons_zero]
            refine wpAnyH_take (i := 9) (v := .slice (some ⟨g, 0, none⟩) s.length vc) rfl (by kernel_rfl) (by kernel_rfl) (by kernel_rfl) (fun _ _ _ h => h) (Or.inl ⟨by kernel_rfl, fun w hSw => by first | (go_simp; done) | (dsimp only at hSw; obtain ⟨⟨t0, t1, t2, t3, t4⟩, ⟨x0, x1, x2, x3, x4, x5, x6⟩, ⟨y0, y1, y2, y3, y4, y5, y6⟩⟩ := hSw; go_simp; done) | rfl⟩) (by assumption) ?_
            simp only [Act.put, List.getElem_toArray, List.getElem_cons_succ, List.getElem_cons_zero, List.setIfInBounds_toArray, List.set_cons_succ, List.set_cons_zero]
            refine wpAnyH_take (i := 10) (v := .int .i64 j) rfl (by kernel_rfl) (by kernel_rfl) (by kernel_rfl) (fun _ _ _ h => h) (Or.inl ⟨by kernel_rfl, fun w hSw => by first | (go_simp; done) | (dsimp only at hSw; obtain ⟨⟨t0, t1, t2, t3, t4⟩, ⟨x0, x1, x2, x3, x4, x5, x6⟩, ⟨y0, y1, y2, y3, y4, y5, y6⟩⟩ := hSw; go_simp; done) | rfl⟩) (by assumption) ?_
            simp only [Act.put, List.getElem_toArray, List.getElem_cons_succ, List.getElem_cons_zero, List.setIfInBounds_toArray, List.set_cons_succ, List.set_cons_zero]
            refine wpAnyH_take (i := 11) (v := .pointer (some ⟨g, j * 7, none⟩)) rfl (by kernel_rfl) (by kernel_rfl) (by kernel_rfl) (fun _ _ _ h => h) (Or.inl ⟨by kernel_rfl, fun w hSw => by first | (go_simp; done) | (dsimp only at hSw; obtain ⟨⟨t0, t1, t2, t3, t4⟩, ⟨x0, x1, x2, x3, x4, x5, x6⟩, ⟨y0, y1, y2, y3, y4, y5, y6⟩⟩ := hSw; go_simp; done) | rfl⟩) (by assumption) ?_
            simp only [Act.put, List.getElem_toArray, List.getElem_cons_succ, List.getElem_cons_zero, List.setIfInBounds_toArray, List.set_cons_succ, List.set_cons_zero]
            refine wpAnyH_take (i := 12) (v := .agg #[.int .i64 q.tr, .int .i64 q.dy, .int .i64 q.co, .int .i64 q.se, .int .i64 q.ba, .int .i64 q.be, .int .i64 q.od]) rfl (by kernel_rfl) (by kernel_rfl) (by kernel_rfl) (fun _ _ _ h => h) (Or.inl ⟨by kernel_rfl, fun w hSw => by first | (go_simp; done) | (dsimp only at hSw; obtain ⟨⟨t0, t1, t2, t3, t4⟩, ⟨x0, x1, x2, x3, x4, x5, x6⟩, ⟨y0, y1, y2, y3, y4, y5, y6⟩⟩ := hSw; go_simp; done) | rfl⟩) (by assumption) ?_
            simp only [Act.put, List.getElem_toArray, List.getElem_cons_succ, List.getElem_cons_zero, List.setIfInBounds_toArray, List.set_cons_succ, List.set_cons_zero]
            refine wpAnyH_ready (rs := [6]) (by kernel_rfl) (by simp) ?_
            refine AllReadyH.cons rfl (fun K hK => ?_) AllReadyH.nil
            go_simp
            go_wp2_with (go_at_call 101; (with_reducible refine (HGp.out _ K4).mono ?_); rintro e w5 ⟨rfl, L5⟩; have K5 : Below W2.heap.size W2 w5 := K4.trans (L5.mono K4.size))
            refine hK.out _ _ ?_ (fun hHeld2 => ?_)
            · first | exact ⟨HB2.out.on K6 hb2, HPA.out _ K6, HQA.out _ K6⟩ | exact ⟨HB2.out.on K5 hb2, HPA.out _ K5, HQA.out _ K5⟩
            clear hK K hHeld
            have hHeld := hHeld2
            clear hHeld2
            refine wpAnyH_ready (rs := [13]) (by kernel_rfl) (by simp) ?_
            refine AllReadyH.cons rfl (fun K hK => ?_) AllReadyH.nil
            go_simp
            go_wp2_with (go_at_call 101; (with_reducible refine (HGq.out _ K5).mono ?_); rintro e w6 ⟨rfl, L6⟩; have K6 : Below W2.heap.size W2 w6 := K5.trans (L6.mono K5.size))
            refine hK.out _ _ ?_ (fun hHeld2 => ?_)
            · first | exact ⟨HB2.out.on K6 hb2, HPA.out _ K6, HQA.out _ K6⟩ | exact ⟨HB2.out.on K5 hb2, HPA.out _ K5, HQA.out _ K5⟩
            clear hK K hHeld
            have hHeld := hHeld2
            clear hHeld2
            refine wpAnyH_take (i := 14) (v := .bool false) rfl (by kernel_rfl) (by kernel_rfl) (by kernel_rfl) (fun _ _ _ h => h) (Or.inl ⟨by kernel_rfl, fun w hSw => by first | (go_simp; done) | (dsimp only at hSw; obtain ⟨⟨t0, t1, t2, t3, t4⟩, ⟨x0, x1, x2, x3, x4, x5, x6⟩, ⟨y0, y1, y2, y3, y4, y5, y6⟩⟩ := hSw; go_simp; done) | rfl⟩) (by assumption) ?_
            simp only [Act.put, List.getElem_toArray, List.getElem_cons_succ, List.getElem_cons_zero, List.setIfInBounds_toArray, List.set_cons_succ, List.set_cons_zero]
            refine wpAnyH_done (by kernel_rfl) ?_ _
            clear hHeld
            have HE : Hid (j = bi s G (i + 1)) := HST.out.symm
            go_wp2
            go_roundw
            case rel => exact ⟨j, i + 1, hj, by omega, by omega, rfl, by go_num, K6, HE⟩
            case measure => simp [intOf]; omega
        · obtain rfl : i = s.length := by omega
          have HZ : Hid (_) := HBP.out j hj HJ.out
          have hz1 : Hid (Z.co = s[j].co) := by show Z.co = _; rw [HZ.out]
          have hz2 : Hid (Z.se = s[j].se) := by show Z.se = _; rw [HZ.out]
          generalize s[j] = q at *
          go_wp2
          refine wp_region_held_drew (S := (fun w' => At0 w' g j q)) (by kernel_rfl) ?_ (fun hHeld => ?_)
          · exact HQA.out _ LZ.drew
          refine wpAnyH_take (i := 0) (v := .slice (some ⟨g, 0, none⟩) s.length vc) rfl (by kernel_rfl) (by kernel_rfl) (by kernel_rfl) (fun _ _ _ h => h) (Or.inl ⟨by kernel_rfl, fun w hSw => by first | (go_simp; done) | (dsimp only at hSw; obtain ⟨x0, x1, x2, x3, x4, x5, x6⟩ := hSw; go_simp; done) | rfl⟩) (by assumption) ?_
          simp only [Act.put, List.getElem_toArray, List.getElem_cons_succ, List.getElem_cons_zero, List.setIfInBounds_toArray, List.set_cons_succ, List.set_cons_zero]
          refine wpAnyH_take (i := 1) (v := .int .i64 j) rfl (by kernel_rfl) (by kernel_rfl) (by kernel_rfl) (fun _ _ _ h => h) (Or.inl ⟨by kernel_rfl, fun w hSw => by first | (go_simp; done) | (dsimp only at hSw; obtain ⟨x0, x1, x2, x3, x4, x5, x6⟩ := hSw; go_simp; done) | rfl⟩) (by assumption) ?_
          simp only [Act.put, List.getElem_toArray, List.getElem_cons_succ, List.getElem_cons_zero, List.setIfInBounds_toArray, List.set_cons_succ, List.set_cons_zero]
          refine wpAnyH_take (i := 2) (v := .pointer (some ⟨g, j * 7, none⟩)) rfl (by kernel_rfl) (by kernel_rfl) (by kernel_rfl) (fun _ _ _ h => h) (Or.inl ⟨by kernel_rfl, fun w hSw => by first | (go_simp; done) | (dsimp only at hSw; obtain ⟨x0, x1, x2, x3, x4, x5, x6⟩ := hSw; go_simp; done) | rfl⟩) (by assumption) ?_
          simp only [Act.put, List.getElem_toArray, List.getElem_cons_succ, List.getElem_cons_zero, List.setIfInBounds_toArray, List.set_cons_succ, List.set_cons_zero]
          refine wpAnyH_take (i := 3) (v := .pointer (some ⟨g, j * 7 + 2, none⟩)) rfl (by kernel_rfl) (by kernel_rfl) (by kernel_rfl) (fun _ _ _ h => h) (Or.inl ⟨by kernel_rfl, fun w hSw => by first | (go_simp; done) | (dsimp only at hSw; obtain ⟨x0, x1, x2, x3, x4, x5, x6⟩ := hSw; go_simp; done) | rfl⟩) (by assumption) ?_
          simp only [Act.put, List.getElem_toArray, List.getElem_cons_succ, List.getElem_cons_zero, List.setIfInBounds_toArray, List.set_cons_succ, List.set_cons_zero]
          refine wpAnyH_take (i := 4) (v := .int .i64 q.co) rfl (by kernel_rfl) (by kernel_rfl) (by kernel_rfl) (fun _ _ _ h => h) (Or.inl ⟨by kernel_rfl, fun w hSw => by first | (go_simp; done) | (dsimp only at hSw; obtain ⟨x0, x1, x2, x3, x4, x5, x6⟩ := hSw; go_simp; done) | rfl⟩) (by assumption) ?_
          simp only [Act.put, List.getElem_toArray, List.getElem_cons_succ, List.getElem_cons_zero, List.setIfInBounds_toArray, List.set_cons_succ, List.set_cons_zero]
          refine wpAnyH_take (i := 5) (v := .slice (some ⟨g, 0, none⟩) s.length vc) rfl (by kernel_rfl) (by kernel_rfl) (by kernel_rfl) (fun _ _ _ h => h) (Or.inl ⟨by kernel_rfl, fun w hSw => by first | (go_simp; done) | (dsimp only at hSw; obtain ⟨x0, x1, x2, x3, x4, x5, x6⟩ := hSw; go_simp; done) | rfl⟩) (by assumption) ?_
          simp only [Act.put, List.getElem_toArray, List.getElem_cons_succ, List.getElem_cons_zero, List.setIfInBounds_toArray, List.set_cons_succ, List.set_cons_zero]
          refine wpAnyH_take (i := 6) (v := .int .i64 j) rfl (by kernel_rfl) (by kernel_rfl) (by kernel_rfl) (fun _ _ _ h => h) (Or.inl ⟨by kernel_rfl, fun w hSw => by first | (go_simp; done) | (dsimp only at hSw; obtain ⟨x0, x1, x2, x3, x4, x5, x6⟩ := hSw; go_simp; done) | rfl⟩) (by assumption) ?_
          simp only [Act.put, List.getElem_toArray, List.getElem_cons_succ, List.getElem_cons_zero, List.setIfInBounds_toArray, List.set_cons_succ, List.set_cons_zero]
          refine wpAnyH_take (i := 7) (v := .pointer (some ⟨g, j * 7, none⟩)) rfl (by kernel_rfl) (by kernel_rfl) (by kernel_rfl) (fun _ _ _ h => h) (Or.inl ⟨by kernel_rfl, fun w hSw => by first | (go_simp; done) | (dsimp only at hSw; obtain ⟨x0, x1, x2, x3, x4, x5, x6⟩ := hSw; go_simp; done) | rfl⟩) (by assumption) ?_
          simp only [Act.put, List.getElem_toArray, List.getElem_cons_succ, List.getElem_cons_zero, List.setIfInBounds_toArray, List.set_cons_succ, List.set_cons_zero]
          refine wpAnyH_take (i := 8) (v := .pointer (some ⟨g, j * 7 + 3, none⟩)) rfl (by kernel_rfl) (by kernel_rfl) (by kernel_rfl) (fun _ _ _ h => h) (Or.inl ⟨by kernel_rfl, fun w hSw => by first | (go_simp; done) | (dsimp only at hSw; obtain ⟨x0, x1, x2, x3, x4, x5, x6⟩ := hSw; go_simp; done) | rfl⟩) (by assumption) ?_
          simp only [Act.put, List.getElem_toArray, List.getElem_cons_succ, List.getElem_cons_zero, List.setIfInBounds_toArray, List.set_cons_succ, List.set_cons_zero]
          refine wpAnyH_take (i := 9) (v := .int .i64 q.se) rfl (by kernel_rfl) (by kernel_rfl) (by kernel_rfl) (fun _ _ _ h => h) (Or.inl ⟨by kernel_rfl, fun w hSw => by first | (go_simp; done) | (dsimp only at hSw; obtain ⟨x0, x1, x2, x3, x4, x5, x6⟩ := hSw; go_simp; done) | rfl⟩) (by assumption) ?_
          simp only [Act.put, List.getElem_toArray, List.getElem_cons_succ, List.getElem_cons_zero, List.setIfInBounds_toArray, List.set_cons_succ, List.set_cons_zero]
          refine wpAnyH_take (i := 10) (v := .int .i64 q.co) rfl (by kernel_rfl) (by kernel_rfl) (by kernel_rfl) (fun _ _ _ h => h) (Or.inl ⟨by kernel_rfl, fun w hSw => by first | (go_simp; done) | (dsimp only at hSw; obtain ⟨x0, x1, x2, x3, x4, x5, x6⟩ := hSw; go_simp; done) | rfl⟩) (by assumption) ?_
          simp only [Act.put, List.getElem_toArray, List.getElem_cons_succ, List.getElem_cons_zero, List.setIfInBounds_toArray, List.set_cons_succ, List.set_cons_zero]
          refine wpAnyH_take (i := 11) (v := .int .i64 q.se) rfl (by kernel_rfl) (by kernel_rfl) (by kernel_rfl) (fun _ _ _ h => h) (Or.inl ⟨by kernel_rfl, fun w hSw => by first | (go_simp; done) | (dsimp only at hSw; obtain ⟨x0, x1, x2, x3, x4, x5, x6⟩ := hSw; go_simp; done) | rfl⟩) (by assumption) ?_
          simp only [Act.put, List.getElem_toArray, List.getElem_cons_succ, List.getElem_cons_zero, List.setIfInBounds_toArray, List.set_cons_succ, List.set_cons_zero]
          refine wpAnyH_take (i := 12) (v := .bool true) rfl (by kernel_rfl) (by kernel_rfl) (by kernel_rfl) (fun _ _ _ h => h) (Or.inl ⟨by kernel_rfl, fun w hSw => by first | (go_simp; done) | (dsimp only at hSw; obtain ⟨x0, x1, x2, x3, x4, x5, x6⟩ := hSw; go_simp; done) | rfl⟩) (by assumption) ?_
          simp only [Act.put, List.getElem_toArray, List.getElem_cons_succ, List.getElem_cons_zero, List.setIfInBounds_toArray, List.set_cons_succ, List.set_cons_zero]
          refine wpAnyH_done (by kernel_rfl) ?_ _
          go_wp2
          refine bodyPost_ret (results_tmp3 rfl _ _ _) rfl ?_
          exact ⟨by rw [hz1.out, hz2.out] <;> rfl, (join_below K2 LZ).drew⟩
  · have ha : askB t ls day x y = false := Bool.eq_false_iff.2 ha
    rw [ha] at HA
    have hv : resL l t ls day x y = [] := if_neg (by rw [ha]; simp)
    rw [hv]
    clear ha hv
    go_enter Try.func50, Try.ntmps50
    go_wp2_with fail
    refine (HA.out ()).mono ?_
    rintro e w1 ⟨rfl, L1⟩
    go_wp2
    refine bodyPost_ret (results_tmp3 rfl _ _ _) rfl ?_
    exact ⟨rfl, join_below N L1⟩

end Se
end Go.Proofs.Ytiollklighmojad

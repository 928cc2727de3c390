/- BestSeat of the program. -/
import Derived.Test.YtiollklighmojadSeBest
import Derived.Deep.Cut
namespace Go.Proofs.Ytiollklighmojad
namespace Se
open Go.ChangeShapes Go.WideShapes Go.ChangeAt Go.RowKit
open Tn (Hd St trV trB Stops runsB okB)
open Pk (new_below join_below cell_at heap_new frozen_at lt_of kept heap_old Drawn info_of own_form own_below Room)
set_option linter.unusedSimpArgs false
set_option linter.unusedVariables false

/-- A box of a hold that may be written. -/
def Bw (w : World) (X : Nat) (p : Hl) : Prop := Bx w X p ∧ X < w.heap.size ∧ ∀ i, w.frozen? ⟨X, i, none⟩ = false

abbrev set7 (w : World) (X : Nat) (p : Hl) : World := ((((((w.setCell ⟨X, 0, none⟩ (.int .i64 p.tr)).setCell ⟨X, 1, none⟩ (.int .i64 p.dy)).setCell ⟨X, 2, none⟩ (.int .i64 p.co)).setCell ⟨X, 3, none⟩ (.int .i64 p.se)).setCell ⟨X, 4, none⟩ (.int .i64 p.ba)).setCell ⟨X, 5, none⟩ (.int .i64 p.be)).setCell ⟨X, 6, none⟩ (.int .i64 p.od)

theorem Bw.on {w w1 : World} {X : Nat} {p : Hl} (h : Bw w X p) (L : Below w.heap.size w w1) : Bw w1 X p :=
  ⟨h.1.on L h.2.1, Nat.lt_of_lt_of_le h.2.1 L.size, fun i => by rw [L.frozen (p := ⟨X, i, none⟩) h.2.1]; exact h.2.2 i⟩

theorem Bw.set {w : World} {X : Nat} {p q : Hl} (h : Bw w X q) : Bw (set7 w X p) X p := by
  obtain ⟨⟨h0, h1, h2, h3, h4, h5, h6⟩, hX, hf⟩ := h
  refine ⟨?_, ?_, fun i => ?_⟩
  · unfold Bx
    rw [set_cell (set_cell (set_cell (set_cell (set_cell (set_cell (set_cell h0)))))), set_cell (set_cell (set_cell (set_cell (set_cell (set_cell (set_cell h1)))))), set_cell (set_cell (set_cell (set_cell (set_cell (set_cell (set_cell h2)))))), set_cell (set_cell (set_cell (set_cell (set_cell (set_cell (set_cell h3)))))), set_cell (set_cell (set_cell (set_cell (set_cell (set_cell (set_cell h4)))))), set_cell (set_cell (set_cell (set_cell (set_cell (set_cell (set_cell h5)))))), set_cell (set_cell (set_cell (set_cell (set_cell (set_cell (set_cell h6))))))]
    simp
  · rw [World.size_setCell, World.size_setCell, World.size_setCell, World.size_setCell, World.size_setCell, World.size_setCell, World.size_setCell]
    exact hX
  · rw [World.frozen?_setCell, World.frozen?_setCell, World.frozen?_setCell, World.frozen?_setCell, World.frozen?_setCell, World.frozen?_setCell, World.frozen?_setCell]
    exact hf i

theorem Bw.new (w : World) (p : Hl) (t : TypeId) : Bw (w.alloc (.cells #[.int .i64 p.tr, .int .i64 p.dy, .int .i64 p.co, .int .i64 p.se, .int .i64 p.ba, .int .i64 p.be, .int .i64 p.od] t)) w.heap.size p := ⟨Bx.of (heap_new _ _), by simp, fun i => frozen_at (heap_new _ _) i⟩

theorem set7_below {B X : Nat} {a w : World} {p : Hl} (h : Below B a w) (hX : B ≤ X) : Below B a (set7 w X p) := ((((((h.setCell (p := ⟨X, 0, none⟩) hX _).setCell (p := ⟨X, 1, none⟩) hX _).setCell (p := ⟨X, 2, none⟩) hX _).setCell (p := ⟨X, 3, none⟩) hX _).setCell (p := ⟨X, 4, none⟩) hX _).setCell (p := ⟨X, 5, none⟩) hX _).setCell (p := ⟨X, 6, none⟩) hX _

set_option maxRecDepth 100000 in
set_option maxHeartbeats 1000000 in
theorem implBest_val (la : Option Addr) (l : List Hl) (lc : Nat) (t : Hd) (ta : Option Addr) (ls : List St) (tc : Nat) (day x y : Int) (w : World) (hl : l.length ≤ 1048576) (hls : ls.length ≤ maxLen) (I : Holds w la l) (J : Stops w ta ls) (hwf : Wfs l) :
    Calls Try.prog 47 #[.slice la l.length lc, trV t ta ls.length tc, .int .i64 day, .int .i64 x, .int .i64 y] w fun e w' => e = .returned (.tuple #[.int .i64 (bestP (resL l t ls day x y) (gapV l ls.length)).co, .int .i64 (bestP (resL l t ls day x y) (gapV l ls.length)).se, .bool (decide (0 < (resL l t ls day x y).length))]) ∧ Below w.heap.size w w' := by
  have hln := res_len l t ls day x y
  have N := new_below w (trB t ta ls.length tc 26)
  have HB : Hid (Tbx (w.alloc (trB t ta ls.length tc 26)) w.heap.size t ta ls.length tc) := Tbx.of (heap_new _ _)
  have hb0 : w.heap.size < (w.alloc (trB t ta ls.length tc 26)).heap.size := by simp
  have HQ : Hid (∀ wx, Below w.heap.size w wx → Calls Try.prog 96 #[.slice la l.length lc] wx fun e w' => e = .returned (.map (some wx.heap.size)) ∧ (∃ es clock, Mp (wx.heap.size + 1) wx.heap.size (grp l) es clock w') ∧ Below wx.heap.size wx w' ∧ wx.heap.size < w'.heap.size) := fun wx L => bySeat_val la l lc wx hl (I.on L) hwf
  have HFS : Hid (∀ wx B b es clock, Below w.heap.size w wx → Mp B b (grp l) es clock wx → Calls Try.prog 97 #[.map (some b), .agg #[.int .i64 t.id, .int .i64 t.dy, .int .i64 t.co, .int .i64 t.se, .slice ta ls.length tc], .int .i64 day, .int .i64 x, .int .i64 y] wx fun e w' => (∃ v, e = .returned (.tuple #[v, .bool (askB t ls day x y)]) ∧ w'.ownsRow wx.heap.size 77 7 v (resL l t ls day x y).length (hcells (resL l t ls day x y))) ∧ Below wx.heap.size wx w') := fun wx B b es clock L M => freeSeats_val B b es clock l t ta ls tc day x y wx (by unfold maxLen; omega) hls M (J.on L)
  have HG : Hid (∀ p wx B b es clock, p ∈ resL l t ls day x y → Mp B b (grp l) es clock wx → Calls Try.prog 98 #[.map (some b), lgV p, .int .i64 ls.length] wx fun e w' => e = .returned (.int .i64 (gapV l ls.length p)) ∧ Below wx.heap.size wx w') := by
    intro p wx B b es clock hp M
    unfold resL at hp
    by_cases ha : askB t ls day x y = true
    · rw [if_pos ha] at hp
      obtain ⟨a1, a2, a3, a4, -⟩ := ask_is ha
      obtain ⟨hw, e1, e2⟩ := mem_all ha hp
      exact slack_val B b es clock l p ls.length wx hw (by unfold maxLen; omega) (by omega) (by omega) (by omega) a4 M
    · rw [if_neg ha] at hp
      simp at hp
  have hlm : 0 < (resL l t ls day x y).length → ls.length ≤ 20 := by
    intro h
    unfold resL at h
    by_cases ha : askB t ls day x y = true
    · exact (ask_is ha).2.2.2.1
    · rw [if_neg ha] at h
      simp at h
  generalize askB t ls day x y = R at *
  generalize resL l t ls day x y = s at *
  generalize gapV l ls.length = G at *
  by_cases h0 : s.length = 0
  · have e0 : s = [] := List.eq_nil_of_length_eq_zero h0
    subst e0
    clear hln h0 HG hlm
    go_enter Try.func47, Try.ntmps47
    go_wp2_with fail
    refine (HQ.out _ N).mono ?_
    generalize w.alloc (trB t ta ls.length tc 26) = W at *
    rintro e w1 ⟨rfl, ⟨es1, ck1, M1⟩, L1, hz1⟩
    have K1 := join_below N L1
    obtain ⟨x0, x1, x2, x3, x4⟩ := HB.out.on L1 hb0
    go_wp2_with fail
    refine (HFS.out _ _ _ es1 ck1 K1 M1).mono ?_
    rintro e w2 ⟨⟨v, rfl, O2⟩, L2⟩
    obtain ⟨va, vc, rfl, -⟩ := own_form O2
    go_wp2
    refine bodyPost_ret (results_tmp3 rfl _ _ _) rfl ?_
    exact ⟨rfl, join_below K1 L2⟩
  · have hp : 1 ≤ s.length := by omega
    have hp0 : 0 < s.length := hp
    have e0 : ((s.length : Int) == 0) = false := beq_eq_false_iff_ne.2 (by omega)
    have hl20 := hlm (by omega)
    have HV : Hid (decide (0 < s.length) = true) := decide_eq_true hp
    rw [HV.out]
    have HBP : Hid (∀ j (hj : j < s.length), j = bi s G s.length → bestP s G = s[j]) := by
      intro j hj e
      unfold bestP
      rw [← e, getD_is s j hj]
    generalize bestP s G = Z at *
    clear h0 hlm
    go_enter Try.func47, Try.ntmps47
    go_wp2_with fail
    refine (HQ.out _ N).mono ?_
    generalize w.alloc (trB t ta ls.length tc 26) = W at *
    rintro e w1 ⟨rfl, ⟨es1, ck1, M1⟩, L1, hz1⟩
    have K1 := join_below N L1
    obtain ⟨x0, x1, x2, x3, x4⟩ := HB.out.on L1 hb0
    go_wp2_with fail
    refine (HFS.out _ _ _ es1 ck1 K1 M1).mono ?_
    rintro e W2 ⟨⟨v, rfl, O2⟩, L2⟩
    have K2 := join_below K1 L2
    have HB2 : Hid (Tbx W2 w.heap.size t ta ls.length tc) := (HB.out.on L1 hb0).on L2 (Nat.lt_of_lt_of_le hb0 L1.size)
    have hb2 : w.heap.size < W2.heap.size := by have h1 := L1.size; have h2 := L2.size; omega
    obtain ⟨g, vc, rfl, -, hg, -, -⟩ := own_cell O2 (by omega)
    have HAT : Hid (∀ k (hk : k < s.length) wx, Below W2.heap.size W2 wx → At0 wx g k s[k]) := fun k hk wx L => (own_at0 O2 k hk).on L hg
    obtain ⟨hcap, hcapm⟩ := own_cap O2
    have M2 := M1.on L2
    have HGG : Hid (∀ k (hk : k < s.length) wx, Below W2.heap.size W2 wx → Calls Try.prog 98 #[.map (some W.heap.size), lgV s[k], .int .i64 ls.length] wx fun e w' => e = .returned (.int .i64 (G s[k])) ∧ Below wx.heap.size wx w') := fun k hk wx L => HG.out s[k] wx _ _ es1 ck1 (List.getElem_mem hk) (M2.on L)
    clear HQ x0 x1 x2 x3 x4 HB N L1 L2 K1 hb0 O2 M1 M2 HG HFS
    have HGq : Hid (∀ wx, Below W2.heap.size W2 wx → _) := fun wx (L : Below W2.heap.size W2 wx) => HGG.out 0 hp wx L
    have HQA : Hid (∀ wx, Below W2.heap.size W2 wx → At0 wx g 0 s[0]) := fun wx L => HAT.out 0 hp wx L
    obtain ⟨q, hq⟩ : ∃ q, s[0] = q := ⟨_, rfl⟩
    have HQE : Hid (s[0] = q) := hq
    rw [hq] at HGq HQA
    clear hq
    obtain ⟨G0, hG0⟩ : ∃ G0, G q = G0 := ⟨_, rfl⟩
    have HGE : Hid (G q = G0) := hG0
    rw [hG0] at HGq
    clear hG0
    go_wp2
    go_cut [16, 17] from 18 (fun s16 s17 wc => ∃ X, s16 = .pointer (some ⟨X, 0, none⟩) ∧ s17 = .int .i64 G0 ∧ Below W2.heap.size W2 wc ∧ W2.heap.size ≤ X ∧ Hid (Bw wc X q))
    case first =>
      have K4 : Below W2.heap.size W2 W2.drew := (Below.refl _ _).drew
      refine wp_region_held_drew (S := (fun w' => Tbx w' w.heap.size t ta ls.length tc ∧ At0 w' g 0 q)) (by kernel_rfl) ?_ (fun hHeld => ?_)
      · exact ⟨HB2.out.on (K4) hb2, HQA.out _ (K4)⟩
      refine wpAnyH_take (i := 0) (v := .slice (some ⟨g, 0, none⟩) s.length vc) rfl (by kernel_rfl) (by kernel_rfl) (by kernel_rfl) (fun _ _ _ h => h) (Or.inl ⟨by kernel_rfl, fun w hSw => by first | (go_simp; done) | (dsimp only at hSw; obtain ⟨⟨t0, t1, t2, t3, t4⟩, ⟨y0, y1, y2, y3, y4, y5, y6⟩⟩ := hSw; go_simp; done) | rfl⟩) (by assumption) ?_
      simp only [Act.put, List.getElem_toArray, List.getElem_cons_succ, List.getElem_cons_zero, List.setIfInBounds_toArray, List.set_cons_succ, List.set_cons_zero]
      refine wpAnyH_take (i := 1) (v := .pointer (some ⟨g, 0, none⟩)) rfl (by kernel_rfl) (by kernel_rfl) (by kernel_rfl) (fun _ _ _ h => h) (Or.inl ⟨by kernel_rfl, fun w hSw => by first | (go_simp; done) | (dsimp only at hSw; obtain ⟨⟨t0, t1, t2, t3, t4⟩, ⟨y0, y1, y2, y3, y4, y5, y6⟩⟩ := hSw; go_simp; done) | rfl⟩) (by assumption) ?_
      simp only [Act.put, List.getElem_toArray, List.getElem_cons_succ, List.getElem_cons_zero, List.setIfInBounds_toArray, List.set_cons_succ, List.set_cons_zero]
      refine wpAnyH_take (i := 2) (v := .agg #[.int .i64 q.tr, .int .i64 q.dy, .int .i64 q.co, .int .i64 q.se, .int .i64 q.ba, .int .i64 q.be, .int .i64 q.od]) rfl (by kernel_rfl) (by kernel_rfl) (by kernel_rfl) (fun _ _ _ h => h) (Or.inl ⟨by kernel_rfl, fun w hSw => by first | (go_simp; done) | (dsimp only at hSw; obtain ⟨⟨t0, t1, t2, t3, t4⟩, ⟨y0, y1, y2, y3, y4, y5, y6⟩⟩ := hSw; go_simp; done) | rfl⟩) (by assumption) ?_
      simp only [Act.put, List.getElem_toArray, List.getElem_cons_succ, List.getElem_cons_zero, List.setIfInBounds_toArray, List.set_cons_succ, List.set_cons_zero]
      refine wpAnyH_take (i := 3) (v := .map (some W.heap.size)) rfl (by kernel_rfl) (by kernel_rfl) (by kernel_rfl) (fun _ _ _ h => h) (Or.inl ⟨by kernel_rfl, fun w hSw => by first | (go_simp; done) | (dsimp only at hSw; obtain ⟨⟨t0, t1, t2, t3, t4⟩, ⟨y0, y1, y2, y3, y4, y5, y6⟩⟩ := hSw; go_simp; done) | rfl⟩) (by assumption) ?_
      simp only [Act.put, List.getElem_toArray, List.getElem_cons_succ, List.getElem_cons_zero, List.setIfInBounds_toArray, List.set_cons_succ, List.set_cons_zero]
      refine wpAnyH_take (i := 4) (v := .slice (some ⟨g, 0, none⟩) s.length vc) rfl (by kernel_rfl) (by kernel_rfl) (by kernel_rfl) (fun _ _ _ h => h) (Or.inl ⟨by kernel_rfl, fun w hSw => by first | (go_simp; done) | (dsimp only at hSw; obtain ⟨⟨t0, t1, t2, t3, t4⟩, ⟨y0, y1, y2, y3, y4, y5, y6⟩⟩ := hSw; go_simp; done) | rfl⟩) (by assumption) ?_
      simp only [Act.put, List.getElem_toArray, List.getElem_cons_succ, List.getElem_cons_zero, List.setIfInBounds_toArray, List.set_cons_succ, List.set_cons_zero]
      refine wpAnyH_take (i := 5) (v := .pointer (some ⟨g, 0, none⟩)) rfl (by kernel_rfl) (by kernel_rfl) (by kernel_rfl) (fun _ _ _ h => h) (Or.inl ⟨by kernel_rfl, fun w hSw => by first | (go_simp; done) | (dsimp only at hSw; obtain ⟨⟨t0, t1, t2, t3, t4⟩, ⟨y0, y1, y2, y3, y4, y5, y6⟩⟩ := hSw; go_simp; done) | rfl⟩) (by assumption) ?_
      simp only [Act.put, List.getElem_toArray, List.getElem_cons_succ, List.getElem_cons_zero, List.setIfInBounds_toArray, List.set_cons_succ, List.set_cons_zero]
      refine wpAnyH_take (i := 6) (v := .agg #[.int .i64 q.tr, .int .i64 q.dy, .int .i64 q.co, .int .i64 q.se, .int .i64 q.ba, .int .i64 q.be, .int .i64 q.od]) rfl (by kernel_rfl) (by kernel_rfl) (by kernel_rfl) (fun _ _ _ h => h) (Or.inl ⟨by kernel_rfl, fun w hSw => by first | (go_simp; done) | (dsimp only at hSw; obtain ⟨⟨t0, t1, t2, t3, t4⟩, ⟨y0, y1, y2, y3, y4, y5, y6⟩⟩ := hSw; go_simp; done) | rfl⟩) (by assumption) ?_
      simp only [Act.put, List.getElem_toArray, List.getElem_cons_succ, List.getElem_cons_zero, List.setIfInBounds_toArray, List.set_cons_succ, List.set_cons_zero]
      refine wpAnyH_take (i := 7) (v := .pointer (some ⟨w.heap.size, 4, none⟩)) rfl (by kernel_rfl) (by kernel_rfl) (by kernel_rfl) (fun _ _ _ h => h) (Or.inl ⟨by kernel_rfl, fun w hSw => by first | (go_simp; done) | (dsimp only at hSw; obtain ⟨⟨t0, t1, t2, t3, t4⟩, ⟨y0, y1, y2, y3, y4, y5, y6⟩⟩ := hSw; go_simp; done) | rfl⟩) (by assumption) ?_
      simp only [Act.put, List.getElem_toArray, List.getElem_cons_succ, List.getElem_cons_zero, List.setIfInBounds_toArray, List.set_cons_succ, List.set_cons_zero]
      refine wpAnyH_take (i := 8) (v := .slice ta ls.length tc) rfl (by kernel_rfl) (by kernel_rfl) (by kernel_rfl) (fun _ _ _ h => h) (Or.inl ⟨by kernel_rfl, fun w hSw => by first | (go_simp; done) | (dsimp only at hSw; obtain ⟨⟨t0, t1, t2, t3, t4⟩, ⟨y0, y1, y2, y3, y4, y5, y6⟩⟩ := hSw; go_simp; done) | rfl⟩) (by assumption) ?_
      simp only [Act.put, List.getElem_toArray, List.getElem_cons_succ, List.getElem_cons_zero, List.setIfInBounds_toArray, List.set_cons_succ, List.set_cons_zero]
      refine wpAnyH_take (i := 9) (v := .int .i64 (ls.length : Int)) rfl (by kernel_rfl) (by kernel_rfl) (by kernel_rfl) (fun _ _ _ h => h) (Or.inl ⟨by kernel_rfl, fun w hSw => by first | (go_simp; done) | (dsimp only at hSw; obtain ⟨⟨t0, t1, t2, t3, t4⟩, ⟨y0, y1, y2, y3, y4, y5, y6⟩⟩ := hSw; go_simp; done) | rfl⟩) (by assumption) ?_
      simp only [Act.put, List.getElem_toArray, List.getElem_cons_succ, List.getElem_cons_zero, List.setIfInBounds_toArray, List.set_cons_succ, List.set_cons_zero]
      generalize W2.drew = w4 at *
      refine wpAnyH_ready (rs := [10, 11]) (by kernel_rfl) (by simp) ?_
      refine AllReadyH.cons rfl (fun K hK => ?_) (AllReadyH.cons rfl (fun K hK => ?_) (AllReadyH.nil))
      · go_simp
        go_wp2_with (go_at_call 98; (with_reducible refine (HGq.out _ K4).mono ?_); rintro e w5 ⟨rfl, L5⟩; have K5 : Below W2.heap.size W2 w5 := K4.trans (L5.mono K4.size))
        refine hK.out _ _ ?_ (fun hHeld2 => ?_)
        · with_reducible exact ⟨HB2.out.on (K5) hb2, HQA.out _ (K5)⟩
        clear hK K hHeld
        have hHeld := hHeld2
        clear hHeld2
        refine wpAnyH_ready (rs := [11]) (by kernel_rfl) (by simp) ?_
        refine AllReadyH.cons rfl (fun K hK => ?_) (AllReadyH.nil)
        go_simp
        have K6 : Below W2.heap.size W2 (w5.alloc (.cells #[.int .i64 0, .int .i64 0, .int .i64 0, .int .i64 0, .int .i64 0, .int .i64 0, .int .i64 0] 77)) := K5.alloc K5.size _
        have HBY6 : Hid (Bw (w5.alloc (.cells #[.int .i64 0, .int .i64 0, .int .i64 0, .int .i64 0, .int .i64 0, .int .i64 0, .int .i64 0] 77)) w5.heap.size zH) := Bw.new w5 zH _
        have hX : W2.heap.size ≤ w5.heap.size := K5.size
        refine hK.out _ _ ?_ (fun hHeld2 => ?_)
        · with_reducible exact ⟨HB2.out.on (K6) hb2, HQA.out _ (K6)⟩
        clear hK K hHeld
        have hHeld := hHeld2
        clear hHeld2
        obtain ⟨X, hXe⟩ : ∃ X, w5.heap.size = X := ⟨_, rfl⟩
        rw [hXe] at HBY6 hX
        try rw [hXe]
        generalize w5.alloc (.cells #[.int .i64 0, .int .i64 0, .int .i64 0, .int .i64 0, .int .i64 0, .int .i64 0, .int .i64 0] 77) = w6 at *
        clear hXe
        obtain ⟨⟨z0, z1, z2, z3, z4, z5, z6⟩, -, fz⟩ := HBY6.out
        simp only [zH] at z0 z1 z2 z3 z4 z5 z6
        have fz0 := fz 0
        have fz1 := fz 1
        have fz2 := fz 2
        have fz3 := fz 3
        have fz4 := fz 4
        have fz5 := fz 5
        have fz6 := fz 6
        refine wpAnyH_ready (rs := [12]) (by kernel_rfl) (by simp) ?_
        refine AllReadyH.cons rfl (fun K hK => ?_) (AllReadyH.nil)
        go_simp
        refine hK.out _ _ ?_ (fun hHeld2 => ?_)
        · with_reducible exact ⟨HB2.out.on (set7_below (p := q) K6 hX) hb2, HQA.out _ (set7_below (p := q) K6 hX)⟩
        clear hK K hHeld
        have hHeld := hHeld2
        clear hHeld2
        clear z0 z1 z2 z3 z4 z5 z6 fz fz0 fz1 fz2 fz3 fz4 fz5 fz6
        refine wpAnyH_ready (rs := [13]) (by kernel_rfl) (by simp) ?_
        refine AllReadyH.cons rfl (fun K hK => ?_) (AllReadyH.nil)
        go_simp
        refine hK.out _ _ ?_ (fun hHeld2 => ?_)
        · with_reducible exact ⟨HB2.out.on (set7_below (p := q) K6 hX) hb2, HQA.out _ (set7_below (p := q) K6 hX)⟩
        clear hK K hHeld
        have hHeld := hHeld2
        clear hHeld2
        refine wpAnyH_done (by kernel_rfl) ?_ _
        clear hHeld
        go_wp2
        go_meet
        case rel =>
          refine ⟨X, rfl, rfl, ?_, hX, ?_⟩
          · with_reducible exact set7_below (p := q) K6 hX
          · show Bw _ _ _
            with_reducible exact HBY6.out.set
      · go_simp
        have K5 : Below W2.heap.size W2 (w4.alloc (.cells #[.int .i64 0, .int .i64 0, .int .i64 0, .int .i64 0, .int .i64 0, .int .i64 0, .int .i64 0] 77)) := K4.alloc K4.size _
        have HBY5 : Hid (Bw (w4.alloc (.cells #[.int .i64 0, .int .i64 0, .int .i64 0, .int .i64 0, .int .i64 0, .int .i64 0, .int .i64 0] 77)) w4.heap.size zH) := Bw.new w4 zH _
        have hX : W2.heap.size ≤ w4.heap.size := K4.size
        refine hK.out _ _ ?_ (fun hHeld2 => ?_)
        · with_reducible exact ⟨HB2.out.on (K5) hb2, HQA.out _ (K5)⟩
        clear hK K hHeld
        have hHeld := hHeld2
        clear hHeld2
        obtain ⟨X, hXe⟩ : ∃ X, w4.heap.size = X := ⟨_, rfl⟩
        rw [hXe] at HBY5 hX
        try rw [hXe]
        generalize w4.alloc (.cells #[.int .i64 0, .int .i64 0, .int .i64 0, .int .i64 0, .int .i64 0, .int .i64 0, .int .i64 0] 77) = w5 at *
        clear hXe
        refine wpAnyH_ready (rs := [10]) (by kernel_rfl) (by simp) ?_
        refine AllReadyH.cons rfl (fun K hK => ?_) (AllReadyH.nil)
        go_simp
        go_wp2_with (go_at_call 98; (with_reducible refine (HGq.out _ K5).mono ?_); rintro e w6 ⟨rfl, L6⟩; have K6 : Below W2.heap.size W2 w6 := K5.trans (L6.mono K5.size))
        refine hK.out _ _ ?_ (fun hHeld2 => ?_)
        · with_reducible exact ⟨HB2.out.on (K6) hb2, HQA.out _ (K6)⟩
        clear hK K hHeld
        have hHeld := hHeld2
        clear hHeld2
        have HBY6 : Hid (Bw w6 X zH) := HBY5.out.on L6
        obtain ⟨⟨z0, z1, z2, z3, z4, z5, z6⟩, -, fz⟩ := HBY6.out
        simp only [zH] at z0 z1 z2 z3 z4 z5 z6
        have fz0 := fz 0
        have fz1 := fz 1
        have fz2 := fz 2
        have fz3 := fz 3
        have fz4 := fz 4
        have fz5 := fz 5
        have fz6 := fz 6
        refine wpAnyH_ready (rs := [12]) (by kernel_rfl) (by simp) ?_
        refine AllReadyH.cons rfl (fun K hK => ?_) (AllReadyH.nil)
        go_simp
        refine hK.out _ _ ?_ (fun hHeld2 => ?_)
        · with_reducible exact ⟨HB2.out.on (set7_below (p := q) K6 hX) hb2, HQA.out _ (set7_below (p := q) K6 hX)⟩
        clear hK K hHeld
        have hHeld := hHeld2
        clear hHeld2
        clear z0 z1 z2 z3 z4 z5 z6 fz fz0 fz1 fz2 fz3 fz4 fz5 fz6
        refine wpAnyH_ready (rs := [13]) (by kernel_rfl) (by simp) ?_
        refine AllReadyH.cons rfl (fun K hK => ?_) (AllReadyH.nil)
        go_simp
        refine hK.out _ _ ?_ (fun hHeld2 => ?_)
        · with_reducible exact ⟨HB2.out.on (set7_below (p := q) K6 hX) hb2, HQA.out _ (set7_below (p := q) K6 hX)⟩
        clear hK K hHeld
        have hHeld := hHeld2
        clear hHeld2
        refine wpAnyH_done (by kernel_rfl) ?_ _
        clear hHeld
        go_wp2
        go_meet
        case rel =>
          refine ⟨X, rfl, rfl, ?_, hX, ?_⟩
          · with_reducible exact set7_below (p := q) K6 hX
          · show Bw _ _ _
            with_reducible exact HBY6.out.set
    case rest =>
      obtain ⟨X, rfl, rfl, LX, hX, HX⟩ := hcut
      by_cases h1 : s.length = 1
      · have HZ : Hid (Z = q) := by
          have h2 := HBP.out 0 hp (by rw [h1]; exact (bi_one s G).symm)
          rw [HQE.out] at h2
          exact h2
        have hz1 : Hid (Z.co = q.co) := by show Z.co = _; rw [HZ.out]
        have hz2 : Hid (Z.se = q.se) := by show Z.se = _; rw [HZ.out]
        clear HZ HBP HQE HAT HGG HGq HQA HGE
        rw [h1] at hcap ⊢
        by_cases hv : vc = 1
        · subst hv
          go_wp2
          go_loop [49] (fun i => i = .int .i64 0) (fun _ => 0)
          case atStart => rfl
          case round =>
            subst hrel
            go_wp2
            refine wp_region_held_drew (S := (fun w' => Bx w' X q)) (by kernel_rfl) ?_ (fun hHeld => ?_)
            · exact HX.out.1
            refine wpAnyH_take (i := 0) (v := .pointer (some ⟨X, 2, none⟩)) rfl (by kernel_rfl) (by kernel_rfl) (by kernel_rfl) (fun _ _ _ h => h) (Or.inl ⟨by kernel_rfl, fun w hSw => by first | (go_simp; done) | (dsimp only at hSw; obtain ⟨x0, x1, x2, x3, x4, x5, x6⟩ := hSw; go_simp; done) | rfl⟩) (by assumption) ?_
            simp only [Act.put, List.getElem_toArray, List.getElem_cons_succ, List.getElem_cons_zero, List.setIfInBounds_toArray, List.set_cons_succ, List.set_cons_zero]
            refine wpAnyH_take (i := 1) (v := .int .i64 q.co) rfl (by kernel_rfl) (by kernel_rfl) (by kernel_rfl) (fun _ _ _ h => h) (Or.inl ⟨by kernel_rfl, fun w hSw => by first | (go_simp; done) | (dsimp only at hSw; obtain ⟨x0, x1, x2, x3, x4, x5, x6⟩ := hSw; go_simp; done) | rfl⟩) (by assumption) ?_
            simp only [Act.put, List.getElem_toArray, List.getElem_cons_succ, List.getElem_cons_zero, List.setIfInBounds_toArray, List.set_cons_succ, List.set_cons_zero]
            refine wpAnyH_take (i := 2) (v := .pointer (some ⟨X, 3, none⟩)) rfl (by kernel_rfl) (by kernel_rfl) (by kernel_rfl) (fun _ _ _ h => h) (Or.inl ⟨by kernel_rfl, fun w hSw => by first | (go_simp; done) | (dsimp only at hSw; obtain ⟨x0, x1, x2, x3, x4, x5, x6⟩ := hSw; go_simp; done) | rfl⟩) (by assumption) ?_
            simp only [Act.put, List.getElem_toArray, List.getElem_cons_succ, List.getElem_cons_zero, List.setIfInBounds_toArray, List.set_cons_succ, List.set_cons_zero]
            refine wpAnyH_take (i := 3) (v := .int .i64 q.se) rfl (by kernel_rfl) (by kernel_rfl) (by kernel_rfl) (fun _ _ _ h => h) (Or.inl ⟨by kernel_rfl, fun w hSw => by first | (go_simp; done) | (dsimp only at hSw; obtain ⟨x0, x1, x2, x3, x4, x5, x6⟩ := hSw; go_simp; done) | rfl⟩) (by assumption) ?_
            simp only [Act.put, List.getElem_toArray, List.getElem_cons_succ, List.getElem_cons_zero, List.setIfInBounds_toArray, List.set_cons_succ, List.set_cons_zero]
            refine wpAnyH_take (i := 4) (v := .int .i64 q.co) rfl (by kernel_rfl) (by kernel_rfl) (by kernel_rfl) (fun _ _ _ h => h) (Or.inl ⟨by kernel_rfl, fun w hSw => by first | (go_simp; done) | (dsimp only at hSw; obtain ⟨x0, x1, x2, x3, x4, x5, x6⟩ := hSw; go_simp; done) | rfl⟩) (by assumption) ?_
            simp only [Act.put, List.getElem_toArray, List.getElem_cons_succ, List.getElem_cons_zero, List.setIfInBounds_toArray, List.set_cons_succ, List.set_cons_zero]
            refine wpAnyH_take (i := 5) (v := .int .i64 q.se) rfl (by kernel_rfl) (by kernel_rfl) (by kernel_rfl) (fun _ _ _ h => h) (Or.inl ⟨by kernel_rfl, fun w hSw => by first | (go_simp; done) | (dsimp only at hSw; obtain ⟨x0, x1, x2, x3, x4, x5, x6⟩ := hSw; go_simp; done) | rfl⟩) (by assumption) ?_
            simp only [Act.put, List.getElem_toArray, List.getElem_cons_succ, List.getElem_cons_zero, List.setIfInBounds_toArray, List.set_cons_succ, List.set_cons_zero]
            refine wpAnyH_take (i := 6) (v := .bool true) rfl (by kernel_rfl) (by kernel_rfl) (by kernel_rfl) (fun _ _ _ h => h) (Or.inl ⟨by kernel_rfl, fun w hSw => by first | (go_simp; done) | (dsimp only at hSw; obtain ⟨x0, x1, x2, x3, x4, x5, x6⟩ := hSw; go_simp; done) | rfl⟩) (by assumption) ?_
            simp only [Act.put, List.getElem_toArray, List.getElem_cons_succ, List.getElem_cons_zero, List.setIfInBounds_toArray, List.set_cons_succ, List.set_cons_zero]
            refine wpAnyH_done (by kernel_rfl) ?_ _
            go_wp2
            refine bodyPost_ret (results_tmp3 rfl _ _ _) rfl ?_
            exact ⟨by rw [hz1.out, hz2.out] <;> rfl, (join_below K2 LX).drew⟩
        · have hv2 : 1 < vc := by omega
          go_wp2
          go_loop [49] (fun i => i = .int .i64 0) (fun _ => 0)
          case atStart => rfl
          case round =>
            subst hrel
            go_wp2
            refine wp_region_held_drew (S := (fun w' => Bx w' X q)) (by kernel_rfl) ?_ (fun hHeld => ?_)
            · exact HX.out.1
            refine wpAnyH_take (i := 0) (v := .pointer (some ⟨X, 2, none⟩)) rfl (by kernel_rfl) (by kernel_rfl) (by kernel_rfl) (fun _ _ _ h => h) (Or.inl ⟨by kernel_rfl, fun w hSw => by first | (go_simp; done) | (dsimp only at hSw; obtain ⟨x0, x1, x2, x3, x4, x5, x6⟩ := hSw; go_simp; done) | rfl⟩) (by assumption) ?_
            simp only [Act.put, List.getElem_toArray, List.getElem_cons_succ, List.getElem_cons_zero, List.setIfInBounds_toArray, List.set_cons_succ, List.set_cons_zero]
            refine wpAnyH_take (i := 1) (v := .int .i64 q.co) rfl (by kernel_rfl) (by kernel_rfl) (by kernel_rfl) (fun _ _ _ h => h) (Or.inl ⟨by kernel_rfl, fun w hSw => by first | (go_simp; done) | (dsimp only at hSw; obtain ⟨x0, x1, x2, x3, x4, x5, x6⟩ := hSw; go_simp; done) | rfl⟩) (by assumption) ?_
            simp only [Act.put, List.getElem_toArray, List.getElem_cons_succ, List.getElem_cons_zero, List.setIfInBounds_toArray, List.set_cons_succ, List.set_cons_zero]
            refine wpAnyH_take (i := 2) (v := .pointer (some ⟨X, 3, none⟩)) rfl (by kernel_rfl) (by kernel_rfl) (by kernel_rfl) (fun _ _ _ h => h) (Or.inl ⟨by kernel_rfl, fun w hSw => by first | (go_simp; done) | (dsimp only at hSw; obtain ⟨x0, x1, x2, x3, x4, x5, x6⟩ := hSw; go_simp; done) | rfl⟩) (by assumption) ?_
            simp only [Act.put, List.getElem_toArray, List.getElem_cons_succ, List.getElem_cons_zero, List.setIfInBounds_toArray, List.set_cons_succ, List.set_cons_zero]
            refine wpAnyH_take (i := 3) (v := .int .i64 q.se) rfl (by kernel_rfl) (by kernel_rfl) (by kernel_rfl) (fun _ _ _ h => h) (Or.inl ⟨by kernel_rfl, fun w hSw => by first | (go_simp; done) | (dsimp only at hSw; obtain ⟨x0, x1, x2, x3, x4, x5, x6⟩ := hSw; go_simp; done) | rfl⟩) (by assumption) ?_
            simp only [Act.put, List.getElem_toArray, List.getElem_cons_succ, List.getElem_cons_zero, List.setIfInBounds_toArray, List.set_cons_succ, List.set_cons_zero]
            refine wpAnyH_take (i := 4) (v := .int .i64 q.co) rfl (by kernel_rfl) (by kernel_rfl) (by kernel_rfl) (fun _ _ _ h => h) (Or.inl ⟨by kernel_rfl, fun w hSw => by first | (go_simp; done) | (dsimp only at hSw; obtain ⟨x0, x1, x2, x3, x4, x5, x6⟩ := hSw; go_simp; done) | rfl⟩) (by assumption) ?_
            simp only [Act.put, List.getElem_toArray, List.getElem_cons_succ, List.getElem_cons_zero, List.setIfInBounds_toArray, List.set_cons_succ, List.set_cons_zero]
            refine wpAnyH_take (i := 5) (v := .int .i64 q.se) rfl (by kernel_rfl) (by kernel_rfl) (by kernel_rfl) (fun _ _ _ h => h) (Or.inl ⟨by kernel_rfl, fun w hSw => by first | (go_simp; done) | (dsimp only at hSw; obtain ⟨x0, x1, x2, x3, x4, x5, x6⟩ := hSw; go_simp; done) | rfl⟩) (by assumption) ?_
            simp only [Act.put, List.getElem_toArray, List.getElem_cons_succ, List.getElem_cons_zero, List.setIfInBounds_toArray, List.set_cons_succ, List.set_cons_zero]
            refine wpAnyH_take (i := 6) (v := .bool true) rfl (by kernel_rfl) (by kernel_rfl) (by kernel_rfl) (fun _ _ _ h => h) (Or.inl ⟨by kernel_rfl, fun w hSw => by first | (go_simp; done) | (dsimp only at hSw; obtain ⟨x0, x1, x2, x3, x4, x5, x6⟩ := hSw; go_simp; done) | rfl⟩) (by assumption) ?_
            simp only [Act.put, List.getElem_toArray, List.getElem_cons_succ, List.getElem_cons_zero, List.setIfInBounds_toArray, List.set_cons_succ, List.set_cons_zero]
            refine wpAnyH_done (by kernel_rfl) ?_ _
            go_wp2
            refine bodyPost_ret (results_tmp3 rfl _ _ _) rfl ?_
            exact ⟨by rw [hz1.out, hz2.out] <;> rfl, (join_below K2 LX).drew⟩
      · have hv2 : 1 < vc := by omega
        have hv3 : ¬ vc = 1 := by omega
        go_wp2
        go_loopw [17, 49] (fun f i wr => ∃ (j k : Nat) (gj : Int), j < s.length ∧ k + 1 ≤ s.length ∧ f = .int .i64 gj ∧ i = .int .i64 k ∧ Below W2.heap.size W2 wr ∧ Hid (j = bi s G (k + 1)) ∧ Hid (∀ hj : j < s.length, gj = G s[j] ∧ Bw wr X s[j])) (fun _ i _ => s.length - (intOf i).toNat)
        case atStart => exact ⟨0, 0, G0, by omega, by omega, rfl, rfl, LX, (bi_one s G).symm, fun hj => by rw [HQE.out]; exact ⟨HGE.out.symm, HX.out⟩⟩
        case round =>
          obtain ⟨j, k, gj, hj, hk, rfl, rfl, LZ, HJ, HBJ⟩ := hrel
          obtain ⟨hgj, hbj⟩ := HBJ.out hj
          have HGJ : Hid (gj = G s[j]) := hgj
          have HBW : Hid (Bw wr X s[j]) := hbj
          clear hgj hbj HBJ
          by_cases hkn : k + 1 < s.length
          · have hki : k < s.length - 1 := by omega
            have HPA := HAT.out (k + 1) hkn wr LZ
            have HGp : Hid (∀ wx, Below W2.heap.size W2 wx → _) := fun wx (L : Below W2.heap.size W2 wx) => HGG.out (k + 1) hkn wx L
            have HST : Hid (_) := bi_step s G (k + 1) hkn j hj HJ.out
            rw [← HGJ.out] at HST
            obtain ⟨p, hpe⟩ : ∃ p, s[k + 1] = p := ⟨_, rfl⟩
            have HPE : Hid (s[k + 1] = p) := hpe
            rw [hpe] at HPA HGp HST
            clear hpe
            obtain ⟨gp, hgp⟩ : ∃ gp, G p = gp := ⟨_, rfl⟩
            have HPG : Hid (G p = gp) := hgp
            rw [hgp] at HGp HST
            clear hgp
            obtain ⟨c0, c1, c2, c3, c4, c5, c6⟩ := HPA
            rw [show (k + 1) * 7 = 7 + k * 7 by omega] at c0 c1 c2 c3 c4 c5 c6
            have N4 := new_below wr (.cells #[.int .i64 p.tr, .int .i64 p.dy, .int .i64 p.co, .int .i64 p.se, .int .i64 p.ba, .int .i64 p.be, .int .i64 p.od] 77)
            have L4 := join_below LZ N4
            have HY : Hid (Bx (wr.alloc (.cells #[.int .i64 p.tr, .int .i64 p.dy, .int .i64 p.co, .int .i64 p.se, .int .i64 p.ba, .int .i64 p.be, .int .i64 p.od] 77)) wr.heap.size p) := Bx.of (heap_new _ _)
            have hyz : wr.heap.size < (wr.alloc (.cells #[.int .i64 p.tr, .int .i64 p.dy, .int .i64 p.co, .int .i64 p.se, .int .i64 p.ba, .int .i64 p.be, .int .i64 p.od] 77)).heap.size := by simp
            have HW4 : Hid (Bw (wr.alloc (.cells #[.int .i64 p.tr, .int .i64 p.dy, .int .i64 p.co, .int .i64 p.se, .int .i64 p.ba, .int .i64 p.be, .int .i64 p.od] 77)) X s[j]) := HBW.out.on N4
            obtain ⟨x0, x1, x2, x3, x4⟩ := HB2.out.on L4 hb2
            by_cases hc : gp < gj
            · have hd : decide (gp < gj) = true := decide_eq_true hc
              rw [if_pos hc] at HST
              clear hc HJ HBW
              go_wp2_with fail
              refine (HGp.out _ L4).mono ?_
              rintro e w5 ⟨rfl, L5⟩
              have K5 := join_below L4 (L5.mono (Nat.le_refl _))
              obtain ⟨y0, y1, y2, y3, y4, y5, y6⟩ := HY.out.on L5 hyz
              have hw5 := HW4.out.on L5
              have HW5 : Hid (Bw w5 X s[j]) := hw5
              obtain ⟨⟨z0, z1, z2, z3, z4, z5, z6⟩, -, fz⟩ := hw5
              have fz0 := fz 0
              have fz1 := fz 1
              have fz2 := fz 2
              have fz3 := fz 3
              have fz4 := fz 4
              have fz5 := fz 5
              have fz6 := fz 6
              have K6 := set7_below (p := p) K5 hX
              have HE : Hid (k + 1 = bi s G (k + 1 + 1)) := HST.out.symm
              have HB6 : Hid (∀ hj : k + 1 < s.length, gp = G s[k + 1] ∧ Bw (set7 w5 X p) X s[k + 1]) := fun h => by
                rw [HPE.out]
                exact ⟨HPG.out.symm, HW5.out.set⟩
              clear fz x0 x1 x2 x3 x4 HW4 HY
              go_wp2
              go_roundw
              case rel => exact ⟨k + 1, k + 1, gp, hkn, by omega, rfl, by go_num, K6, HE, HB6⟩
              case measure => simp [intOf]; omega
            · have hd : decide (gp < gj) = false := decide_eq_false hc
              rw [if_neg hc] at HST
              clear hc HJ HBW
              go_wp2_with fail
              refine (HGp.out _ L4).mono ?_
              rintro e w5 ⟨rfl, L5⟩
              have K5 := join_below L4 (L5.mono (Nat.le_refl _))
              have HE : Hid (j = bi s G (k + 1 + 1)) := HST.out.symm
              have HB6 : Hid (∀ hj : j < s.length, gj = G s[j] ∧ Bw w5 X s[j]) := fun h => ⟨HGJ.out, HW4.out.on L5⟩
              clear x0 x1 x2 x3 x4 HW4 HY
              go_wp2
              go_roundw
              case rel => exact ⟨j, k + 1, gj, hj, by omega, rfl, by go_num, K5, HE, HB6⟩
              case measure => simp [intOf]; omega
          · have hke : k + 1 = s.length := by omega
            have hki : s.length - 1 = k := by omega
            have HZ : Hid (Z = s[j]) := HBP.out j hj (by rw [← hke]; exact HJ.out)
            have hz1 : Hid (Z.co = s[j].co) := by show Z.co = _; rw [HZ.out]
            have hz2 : Hid (Z.se = s[j].se) := by show Z.se = _; rw [HZ.out]
            generalize s[j] = q at *
            have HX' : Hid (Bw wr X q) := HBW.out
            clear HZ hke
            go_wp2
            refine wp_region_held_drew (S := (fun w' => Bx w' X q)) (by kernel_rfl) ?_ (fun hHeld => ?_)
            · exact HX'.out.1
            refine wpAnyH_take (i := 0) (v := .pointer (some ⟨X, 2, none⟩)) rfl (by kernel_rfl) (by kernel_rfl) (by kernel_rfl) (fun _ _ _ h => h) (Or.inl ⟨by kernel_rfl, fun w hSw => by first | (go_simp; done) | (dsimp only at hSw; obtain ⟨x0, x1, x2, x3, x4, x5, x6⟩ := hSw; go_simp; done) | rfl⟩) (by assumption) ?_
            simp only [Act.put, List.getElem_toArray, List.getElem_cons_succ, List.getElem_cons_zero, List.setIfInBounds_toArray, List.set_cons_succ, List.set_cons_zero]
            refine wpAnyH_take (i := 1) (v := .int .i64 q.co) rfl (by kernel_rfl) (by kernel_rfl) (by kernel_rfl) (fun _ _ _ h => h) (Or.inl ⟨by kernel_rfl, fun w hSw => by first | (go_simp; done) | (dsimp only at hSw; obtain ⟨x0, x1, x2, x3, x4, x5, x6⟩ := hSw; go_simp; done) | rfl⟩) (by assumption) ?_
            simp only [Act.put, List.getElem_toArray, List.getElem_cons_succ, List.getElem_cons_zero, List.setIfInBounds_toArray, List.set_cons_succ, List.set_cons_zero]
            refine wpAnyH_take (i := 2) (v := .pointer (some ⟨X, 3, none⟩)) rfl (by kernel_rfl) (by kernel_rfl) (by kernel_rfl) (fun _ _ _ h => h) (Or.inl ⟨by kernel_rfl, fun w hSw => by first | (go_simp; done) | (dsimp only at hSw; obtain ⟨x0, x1, x2, x3, x4, x5, x6⟩ := hSw; go_simp; done) | rfl⟩) (by assumption) ?_
            simp only [Act.put, List.getElem_toArray, List.getElem_cons_succ, List.getElem_cons_zero, List.setIfInBounds_toArray, List.set_cons_succ, List.set_cons_zero]
            refine wpAnyH_take (i := 3) (v := .int .i64 q.se) rfl (by kernel_rfl) (by kernel_rfl) (by kernel_rfl) (fun _ _ _ h => h) (Or.inl ⟨by kernel_rfl, fun w hSw => by first | (go_simp; done) | (dsimp only at hSw; obtain ⟨x0, x1, x2, x3, x4, x5, x6⟩ := hSw; go_simp; done) | rfl⟩) (by assumption) ?_
            simp only [Act.put, List.getElem_toArray, List.getElem_cons_succ, List.getElem_cons_zero, List.setIfInBounds_toArray, List.set_cons_succ, List.set_cons_zero]
            refine wpAnyH_take (i := 4) (v := .int .i64 q.co) rfl (by kernel_rfl) (by kernel_rfl) (by kernel_rfl) (fun _ _ _ h => h) (Or.inl ⟨by kernel_rfl, fun w hSw => by first | (go_simp; done) | (dsimp only at hSw; obtain ⟨x0, x1, x2, x3, x4, x5, x6⟩ := hSw; go_simp; done) | rfl⟩) (by assumption) ?_
            simp only [Act.put, List.getElem_toArray, List.getElem_cons_succ, List.getElem_cons_zero, List.setIfInBounds_toArray, List.set_cons_succ, List.set_cons_zero]
            refine wpAnyH_take (i := 5) (v := .int .i64 q.se) rfl (by kernel_rfl) (by kernel_rfl) (by kernel_rfl) (fun _ _ _ h => h) (Or.inl ⟨by kernel_rfl, fun w hSw => by first | (go_simp; done) | (dsimp only at hSw; obtain ⟨x0, x1, x2, x3, x4, x5, x6⟩ := hSw; go_simp; done) | rfl⟩) (by assumption) ?_
            simp only [Act.put, List.getElem_toArray, List.getElem_cons_succ, List.getElem_cons_zero, List.setIfInBounds_toArray, List.set_cons_succ, List.set_cons_zero]
            refine wpAnyH_take (i := 6) (v := .bool true) rfl (by kernel_rfl) (by kernel_rfl) (by kernel_rfl) (fun _ _ _ h => h) (Or.inl ⟨by kernel_rfl, fun w hSw => by first | (go_simp; done) | (dsimp only at hSw; obtain ⟨x0, x1, x2, x3, x4, x5, x6⟩ := hSw; go_simp; done) | rfl⟩) (by assumption) ?_
            simp only [Act.put, List.getElem_toArray, List.getElem_cons_succ, List.getElem_cons_zero, List.setIfInBounds_toArray, List.set_cons_succ, List.set_cons_zero]
            refine wpAnyH_done (by kernel_rfl) ?_ _
            go_wp2
            refine bodyPost_ret (results_tmp3 rfl _ _ _) rfl ?_
            exact ⟨by rw [hz1.out, hz2.out] <;> rfl, (join_below K2 LZ).drew⟩


end Se
end Go.Proofs.Ytiollklighmojad

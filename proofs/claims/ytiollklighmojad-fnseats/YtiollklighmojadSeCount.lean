/- The program's freeSeats; FreeCount and FreeSeat of the program and of the model. -/
import Derived.Test.YtiollklighmojadSeAll
namespace Go.Proofs.Ytiollklighmojad
namespace Se
open Go.ChangeShapes Go.WideShapes Go.ChangeAt Go.RowKit
open Tn (Hd St trV trB Stops runsB okB)
open Pk (new_below join_below cell_at heap_new frozen_at lt_of kept heap_old Drawn info_of own_form own_below Room)
set_option linter.unusedSimpArgs false
set_option linter.unusedVariables false

/-- The free seats of a train that can be asked; none of another. -/
def resL (l : List Hl) (t : Hd) (ls : List St) (day x y : Int) : List Hl := if askB t ls day x y = true then freeL l t day x y else []

theorem mem_pre {t : Hd} {day a b : Int} {n c s : Nat} {p : Hl} (h : p ∈ pre t day a b n c s) : ∃ i j : Nat, i ≤ c ∧ j < n + s ∧ p = seat t day a b i j := by
  unfold pre at h
  rw [List.mem_append, List.mem_flatMap] at h
  rcases h with ⟨i, hi, h⟩ | h
  · rw [List.mem_map] at h
    obtain ⟨j, hj, rfl⟩ := h
    rw [List.mem_range] at hi hj
    exact ⟨i, j, by omega, by omega, rfl⟩
  · rw [List.mem_map] at h
    obtain ⟨j, hj, rfl⟩ := h
    rw [List.mem_range] at hj
    exact ⟨c, j, Nat.le_refl _, by omega, rfl⟩

/-- All seats of a train that can be asked are holds whose numbers an int holds. -/
theorem all_wf {t : Hd} {ls : List St} {day x y : Int} (h : askB t ls day x y = true) : Wfs (allL t day x y) := by
  intro p hp
  unfold askB at h
  rw [Bool.and_eq_true, st_is] at h
  obtain ⟨h1, h2, h3⟩ := run_is h.1
  obtain ⟨i, j, hi, hj, rfl⟩ := mem_pre hp
  have h4 := h.2
  have h5 : i ≤ 20 := by omega
  have h6 : j < 90 := by omega
  refine ⟨wfI ?_, wfI ?_, wfI ?_, wfI ?_, wfI ?_, wfI ?_, wfI ?_⟩ <;> simp only [seat] <;> omega

theorem all_len {t : Hd} {ls : List St} {day x y : Int} (h : askB t ls day x y = true) : (allL t day x y).length ≤ 1800 := by
  unfold askB at h
  rw [Bool.and_eq_true] at h
  obtain ⟨h1, h2, h3, -⟩ := run_is h.1
  unfold allL
  rw [pre_len]
  have : t.co.toNat * t.se.toNat ≤ 20 * 90 := Nat.mul_le_mul (by omega) (by omega)
  omega

theorem res_len (l : List Hl) (t : Hd) (ls : List St) (day x y : Int) : (resL l t ls day x y).length ≤ 1800 := by
  unfold resL
  split
  · rename_i h
    exact Nat.le_trans (List.length_filter_le _ _) (all_len h)
  · simp

theorem filter_grp (l : List Hl) (s : List Hl) : (s.filter fun p => freeB (grp l (key p)) p) = s.filter (freeB l) := by
  congr 1
  funext p
  exact free_grp l p

set_option maxRecDepth 100000 in
set_option maxHeartbeats 4000000 in
theorem freeSeats_val (B b : Nat) (es : Array MapEntry) (clock : Nat) (l : List Hl) (t : Hd) (ta : Option Addr) (ls : List St) (tc : Nat) (day x y : Int) (w : World) (hl : l.length ≤ maxLen) (hls : ls.length ≤ maxLen) (M : Mp B b (grp l) es clock w) (J : Stops w ta ls) :
    Calls Try.prog 97 #[.map (some b), trV t ta ls.length tc, .int .i64 day, .int .i64 x, .int .i64 y] w fun e w' => (∃ v, e = .returned (.tuple #[v, .bool (askB t ls day x y)]) ∧ w'.ownsRow w.heap.size 77 7 v (resL l t ls day x y).length (hcells (resL l t ls day x y))) ∧ Below w.heap.size w w' := by
  have N := new_below w (trB t ta ls.length tc 26)
  have HB : Hid (Tbx (w.alloc (trB t ta ls.length tc 26)) w.heap.size t ta ls.length tc) := Tbx.of (heap_new _ _)
  have hb0 : w.heap.size < (w.alloc (trB t ta ls.length tc 26)).heap.size := by simp
  have HR : Hid (∀ _ : Unit, _) := fun _ => Tn.implRuns_val t day ta ls tc _ hls (J.on N)
  have HS : Hid (∀ w, _) := fun w => stretch_val x y ls.length w
  have hlm : ls.length ≤ 9223372036854775807 := by unfold maxLen at hls; omega
  clear hls
  by_cases h0 : runsB t ls day = true
  · rw [h0] at HR
    by_cases h1 : stB x y ls.length = true
    · rw [h1] at HS
      have ha : askB t ls day x y = true := by unfold askB; rw [h0, h1]; rfl
      obtain ⟨i1, i2, i3, i4, i5⟩ := run_is h0
      have HV : Hid (resL l t ls day x y = freeL l t day x y) := if_pos ha
      have HA : Hid (askB t ls day x y = true) := ha
      have HW : Hid (Wfs (allL t day x y)) := all_wf ha
      have hal := all_len ha
      have HQ : Hid (∀ wx, _) := fun wx => implSeats_val t ta ls.length tc day x y t.co.toNat t.se.toNat wx (by omega) (by omega) (by omega) (by omega)
      have HKE : Hid (∀ (ca : Option Addr) (cc : Nat) wx, Below w.heap.size w wx → Holds wx ca (allL t day x y) → Calls Try.prog 108 #[.slice ca (allL t day x y).length cc, .func (.func 106) #[.map (some b)] #[]] wx fun e w' => ∃ v, e = .returned v ∧ w'.ownsRow wx.heap.size 77 7 v (freeL l t day x y).length (hcells (freeL l t day x y)) ∧ Below wx.heap.size wx w') := by
        intro ca cc wx LX IX
        have h := keep_free b (fun p => freeB (grp l (key p)) p) ca (allL t day x y) cc wx (by omega) IX (fun k hk wy LY => isFree_val B b (grp l) es clock _ wy (Wfs.take HW.out k hk) (Nat.le_trans (grp_le _ _) hl) (M.on (join_below LX LY)))
        rw [filter_grp] at h
        exact h
      clear h0 h1 ha i1 i2 i3 i4 i5 HW M
      go_enter Try.func97, Try.ntmps97
      go_wp2_with fail
      refine (HR.out ()).mono ?_
      rintro e w1 ⟨rfl, L1⟩
      obtain ⟨x0, x1, x2, x3, x4⟩ := HB.out.on L1 hb0
      go_wp2_with fail
      refine (HS.out _).mono ?_
      rintro e w2 ⟨rfl, rfl⟩
      have K1 := join_below N L1
      go_wp2_with fail
      refine (HQ.out _).mono ?_
      rintro e w3 ⟨v, rfl, O3, L3⟩
      obtain ⟨ca, cc, rfl, I3⟩ := own_holds O3
      have K3 := join_below K1 L3
      clear O3
      go_wp2_with fail
      refine (HKE.out _ _ _ K3 I3).mono ?_
      rintro e w4 ⟨v4, rfl, O4, L4⟩
      have K4 := join_below K3 L4
      have O5 : Hid (w4.ownsRow w.heap.size 77 7 v4 (resL l t ls day x y).length (hcells (resL l t ls day x y))) := by
        rw [HV.out]
        exact own_wide O4 K3.size
      clear O4
      go_wp2
      refine bodyPost_ret (results_tmp2 rfl _ _ _) rfl ?_
      exact ⟨⟨v4, by rw [HA.out] <;> rfl, O5.out⟩, K4⟩
    · have h1 : stB x y ls.length = false := Bool.eq_false_iff.2 h1
      rw [h1] at HS
      have ha : askB t ls day x y = false := by unfold askB; rw [h0, h1]; rfl
      have HV : Hid (resL l t ls day x y = []) := if_neg (by rw [ha]; simp)
      have HA : Hid (askB t ls day x y = false) := ha
      clear h0 h1 ha M
      go_enter Try.func97, Try.ntmps97
      go_wp2_with fail
      refine (HR.out ()).mono ?_
      rintro e w1 ⟨rfl, L1⟩
      obtain ⟨x0, x1, x2, x3, x4⟩ := HB.out.on L1 hb0
      go_wp2_with fail
      refine (HS.out _).mono ?_
      rintro e w2 ⟨rfl, rfl⟩
      go_wp2
      refine bodyPost_ret (results_tmp2 rfl _ _ _) rfl ?_
      exact ⟨⟨_, by rw [HA.out] <;> rfl, by rw [HV.out]; exact World.ownsRow_nil _ _ _ _⟩, join_below N L1⟩
  · have h0 : runsB t ls day = false := Bool.eq_false_iff.2 h0
    rw [h0] at HR
    have ha : askB t ls day x y = false := by unfold askB; rw [h0]; rfl
    have HV : Hid (resL l t ls day x y = []) := if_neg (by rw [ha]; simp)
    have HA : Hid (askB t ls day x y = false) := ha
    clear h0 ha M
    go_enter Try.func97, Try.ntmps97
    go_wp2_with fail
    refine (HR.out ()).mono ?_
    rintro e w1 ⟨rfl, L1⟩
    go_wp2
    refine bodyPost_ret (results_tmp2 rfl _ _ _) rfl ?_
    exact ⟨⟨_, by rw [HA.out] <;> rfl, by rw [HV.out]; exact World.ownsRow_nil _ _ _ _⟩, join_below N L1⟩

/-- What FreeCount tells. -/
def cntV (l : List Hl) (t : Hd) (ls : List St) (day x y : Int) : Int := if askB t ls day x y = true then ((resL l t ls day x y).length : Int) else -1

/-- What FreeSeat tells of the free seats. -/
def firstC (s : List Hl) : Int := match s with | [] => 0 | p :: _ => p.co
def firstS (s : List Hl) : Int := match s with | [] => 0 | p :: _ => p.se

set_option maxRecDepth 100000 in
set_option maxHeartbeats 4000000 in
theorem implCount_val (la : Option Addr) (l : List Hl) (lc : Nat) (t : Hd) (ta : Option Addr) (ls : List St) (tc : Nat) (day x y : Int) (w : World) (hl : l.length ≤ 1048576) (hls : ls.length ≤ maxLen) (I : Holds w la l) (J : Stops w ta ls) (hwf : Wfs l) :
    Calls Try.prog 48 #[.slice la l.length lc, trV t ta ls.length tc, .int .i64 day, .int .i64 x, .int .i64 y] w fun e w' => e = .returned (.int .i64 (cntV l t ls day x y)) ∧ Below w.heap.size w w' := by
  have HC1 : Hid (askB t ls day x y = true → cntV l t ls day x y = ((resL l t ls day x y).length : Int)) := fun h => if_pos h
  have HC2 : Hid (askB t ls day x y = false → cntV l t ls day x y = -1) := fun h => if_neg (by rw [h]; simp)
  have N := new_below w (trB t ta ls.length tc 26)
  have HB : Hid (Tbx (w.alloc (trB t ta ls.length tc 26)) w.heap.size t ta ls.length tc) := Tbx.of (heap_new _ _)
  have hb0 : w.heap.size < (w.alloc (trB t ta ls.length tc 26)).heap.size := by simp
  have HQ : Hid (∀ wx, Below w.heap.size w wx → Calls Try.prog 96 #[.slice la l.length lc] wx fun e w' => e = .returned (.map (some wx.heap.size)) ∧ (∃ es clock, Mp (wx.heap.size + 1) wx.heap.size (grp l) es clock w') ∧ Below wx.heap.size wx w' ∧ wx.heap.size < w'.heap.size) := fun wx L => bySeat_val la l lc wx hl (I.on L) hwf
  have HFS : Hid (∀ wx B b es clock, Below w.heap.size w wx → Mp B b (grp l) es clock wx → Calls Try.prog 97 #[.map (some b), .agg #[.int .i64 t.id, .int .i64 t.dy, .int .i64 t.co, .int .i64 t.se, .slice ta ls.length tc], .int .i64 day, .int .i64 x, .int .i64 y] wx fun e w' => (∃ v, e = .returned (.tuple #[v, .bool (askB t ls day x y)]) ∧ w'.ownsRow wx.heap.size 77 7 v (resL l t ls day x y).length (hcells (resL l t ls day x y))) ∧ Below wx.heap.size wx w') := fun wx B b es clock L M => freeSeats_val B b es clock l t ta ls tc day x y wx (by unfold maxLen; omega) hls M (J.on L)
  generalize askB t ls day x y = R at *
  go_enter Try.func48, Try.ntmps48
  go_wp2
  generalize w.alloc (trB t ta ls.length tc 26) = W at *
  have K0 : Below w.heap.size w W.drew := N.drew
  have KW0 : Below W.heap.size W W.drew := (Below.refl _ _).drew
  refine wp_region_held_drew (S := (fun w' => Tbx w' w.heap.size t ta ls.length tc)) (by kernel_rfl) ?_ (fun hHeld => ?_)
  · exact HB.out.on KW0 hb0
  refine wpAnyH_take (i := 0) (v := .slice la l.length lc) rfl (by kernel_rfl) (by kernel_rfl) (by kernel_rfl) (fun _ _ _ h => h) (Or.inl ⟨by kernel_rfl, fun w hSw => by first | (go_simp; done) | (dsimp only at hSw; obtain ⟨x0, x1, x2, x3, x4⟩ := hSw; go_simp; done) | rfl⟩) (by assumption) ?_
  simp only [Act.put, List.getElem_toArray, List.getElem_cons_succ, List.getElem_cons_zero, List.setIfInBounds_toArray, List.set_cons_succ, List.set_cons_zero]
  refine wpAnyH_take (i := 2) (v := .agg #[.int .i64 t.id, .int .i64 t.dy, .int .i64 t.co, .int .i64 t.se, .slice ta ls.length tc]) rfl (by kernel_rfl) (by kernel_rfl) (by kernel_rfl) (fun _ _ _ h => h) (Or.inl ⟨by kernel_rfl, fun w hSw => by first | (go_simp; done) | (dsimp only at hSw; obtain ⟨x0, x1, x2, x3, x4⟩ := hSw; go_simp; done) | rfl⟩) (by assumption) ?_
  simp only [Act.put, List.getElem_toArray, List.getElem_cons_succ, List.getElem_cons_zero, List.setIfInBounds_toArray, List.set_cons_succ, List.set_cons_zero]
  refine wpAnyH_take (i := 3) (v := .int .i64 day) rfl (by kernel_rfl) (by kernel_rfl) (by kernel_rfl) (fun _ _ _ h => h) (Or.inl ⟨by kernel_rfl, fun w hSw => by first | (go_simp; done) | (dsimp only at hSw; obtain ⟨x0, x1, x2, x3, x4⟩ := hSw; go_simp; done) | rfl⟩) (by assumption) ?_
  simp only [Act.put, List.getElem_toArray, List.getElem_cons_succ, List.getElem_cons_zero, List.setIfInBounds_toArray, List.set_cons_succ, List.set_cons_zero]
  refine wpAnyH_take (i := 4) (v := .int .i64 x) rfl (by kernel_rfl) (by kernel_rfl) (by kernel_rfl) (fun _ _ _ h => h) (Or.inl ⟨by kernel_rfl, fun w hSw => by first | (go_simp; done) | (dsimp only at hSw; obtain ⟨x0, x1, x2, x3, x4⟩ := hSw; go_simp; done) | rfl⟩) (by assumption) ?_
  simp only [Act.put, List.getElem_toArray, List.getElem_cons_succ, List.getElem_cons_zero, List.setIfInBounds_toArray, List.set_cons_succ, List.set_cons_zero]
  refine wpAnyH_take (i := 5) (v := .int .i64 y) rfl (by kernel_rfl) (by kernel_rfl) (by kernel_rfl) (fun _ _ _ h => h) (Or.inl ⟨by kernel_rfl, fun w hSw => by first | (go_simp; done) | (dsimp only at hSw; obtain ⟨x0, x1, x2, x3, x4⟩ := hSw; go_simp; done) | rfl⟩) (by assumption) ?_
  simp only [Act.put, List.getElem_toArray, List.getElem_cons_succ, List.getElem_cons_zero, List.setIfInBounds_toArray, List.set_cons_succ, List.set_cons_zero]
  refine wpAnyH_ready (rs := [1]) (by kernel_rfl) (by simp) ?_
  refine AllReadyH.cons rfl (fun K hK => ?_) AllReadyH.nil
  go_simp
  go_wp2_with (go_at_call 96; (with_reducible refine (HQ.out _ K0).mono ?_); rintro e w1 ⟨rfl, HM0, L1, hz1⟩; have HM1 : ∃ es clock, Mp (W.heap.size + 1) W.heap.size (grp l) es clock w1 := HM0; have K1 : Below w.heap.size w w1 := K0.trans (L1.mono K0.size); have KW1 : Below W.heap.size W w1 := KW0.trans (L1.mono KW0.size))
  refine hK.out _ _ ?_ (fun hHeld2 => ?_)
  · first | exact HB.out.on KW2 hb0 | exact HB.out.on KW1 hb0
  clear hK K hHeld
  have hHeld := hHeld2
  clear hHeld2
  refine wpAnyH_ready (rs := [6]) (by kernel_rfl) (by simp) ?_
  refine AllReadyH.cons rfl (fun K hK => ?_) AllReadyH.nil
  go_simp
  go_wp2_with (go_at_call 97; obtain ⟨es1, ck1, M1⟩ := HM1; (with_reducible refine (HFS.out _ _ _ es1 ck1 K1 M1).mono ?_); rintro e w2 ⟨⟨v, rfl, O2⟩, L2⟩; have K2 : Below w.heap.size w w2 := K1.trans (L2.mono K1.size); have KW2 : Below W.heap.size W w2 := KW1.trans (L2.mono KW1.size))
  refine hK.out _ _ ?_ (fun hHeld2 => ?_)
  · first | exact HB.out.on KW2 hb0 | exact HB.out.on KW1 hb0
  clear hK K hHeld
  have hHeld := hHeld2
  clear hHeld2
  refine wpAnyH_take (i := 7) (v := .tuple #[v, .bool R]) rfl (by kernel_rfl) (by kernel_rfl) (by kernel_rfl) (fun _ _ _ h => h) (Or.inl ⟨by kernel_rfl, fun w hSw => by first | (go_simp; done) | (dsimp only at hSw; obtain ⟨x0, x1, x2, x3, x4⟩ := hSw; go_simp; done) | rfl⟩) (by assumption) ?_
  simp only [Act.put, List.getElem_toArray, List.getElem_cons_succ, List.getElem_cons_zero, List.setIfInBounds_toArray, List.set_cons_succ, List.set_cons_zero]
  refine wpAnyH_take (i := 8) (v := v) rfl (by kernel_rfl) (by kernel_rfl) (by kernel_rfl) (fun _ _ _ h => h) (Or.inl ⟨by kernel_rfl, fun w hSw => by first | (go_simp; done) | (dsimp only at hSw; obtain ⟨x0, x1, x2, x3, x4⟩ := hSw; go_simp; done) | rfl⟩) (by assumption) ?_
  simp only [Act.put, List.getElem_toArray, List.getElem_cons_succ, List.getElem_cons_zero, List.setIfInBounds_toArray, List.set_cons_succ, List.set_cons_zero]
  refine wpAnyH_take (i := 9) (v := .bool R) rfl (by kernel_rfl) (by kernel_rfl) (by kernel_rfl) (fun _ _ _ h => h) (Or.inl ⟨by kernel_rfl, fun w hSw => by first | (go_simp; done) | (dsimp only at hSw; obtain ⟨x0, x1, x2, x3, x4⟩ := hSw; go_simp; done) | rfl⟩) (by assumption) ?_
  simp only [Act.put, List.getElem_toArray, List.getElem_cons_succ, List.getElem_cons_zero, List.setIfInBounds_toArray, List.set_cons_succ, List.set_cons_zero]
  refine wpAnyH_take (i := 10) (v := v) rfl (by kernel_rfl) (by kernel_rfl) (by kernel_rfl) (fun _ _ _ h => h) (Or.inl ⟨by kernel_rfl, fun w hSw => by first | (go_simp; done) | (dsimp only at hSw; obtain ⟨x0, x1, x2, x3, x4⟩ := hSw; go_simp; done) | rfl⟩) (by assumption) ?_
  simp only [Act.put, List.getElem_toArray, List.getElem_cons_succ, List.getElem_cons_zero, List.setIfInBounds_toArray, List.set_cons_succ, List.set_cons_zero]
  refine wpAnyH_take (i := 11) (v := .bool R) rfl (by kernel_rfl) (by kernel_rfl) (by kernel_rfl) (fun _ _ _ h => h) (Or.inl ⟨by kernel_rfl, fun w hSw => by first | (go_simp; done) | (dsimp only at hSw; obtain ⟨x0, x1, x2, x3, x4⟩ := hSw; go_simp; done) | rfl⟩) (by assumption) ?_
  simp only [Act.put, List.getElem_toArray, List.getElem_cons_succ, List.getElem_cons_zero, List.setIfInBounds_toArray, List.set_cons_succ, List.set_cons_zero]
  refine wpAnyH_done (by kernel_rfl) ?_ _
  clear hHeld
  generalize resL l t ls day x y = s at *
  obtain ⟨va, vc, rfl, -⟩ := own_form O2
  cases R
  · have HE : Hid (_) := HC2.out rfl
    go_wp2
    go_ret
    exact ⟨by rw [HE.out] <;> rfl, K2⟩
  · have HE : Hid (_) := HC1.out rfl
    go_wp2
    go_ret
    exact ⟨by rw [HE.out] <;> rfl, K2⟩

set_option maxRecDepth 100000 in
set_option maxHeartbeats 4000000 in
theorem implFirst_val (la : Option Addr) (l : List Hl) (lc : Nat) (t : Hd) (ta : Option Addr) (ls : List St) (tc : Nat) (day x y : Int) (w : World) (hl : l.length ≤ 1048576) (hls : ls.length ≤ maxLen) (I : Holds w la l) (J : Stops w ta ls) (hwf : Wfs l) :
    Calls Try.prog 46 #[.slice la l.length lc, trV t ta ls.length tc, .int .i64 day, .int .i64 x, .int .i64 y] w fun e w' => e = .returned (.tuple #[.int .i64 (firstC (resL l t ls day x y)), .int .i64 (firstS (resL l t ls day x y)), .bool (decide (0 < (resL l t ls day x y).length))]) ∧ Below w.heap.size w w' := by
  have hln := res_len l t ls day x y
  have N := new_below w (trB t ta ls.length tc 26)
  have HB : Hid (Tbx (w.alloc (trB t ta ls.length tc 26)) w.heap.size t ta ls.length tc) := Tbx.of (heap_new _ _)
  have hb0 : w.heap.size < (w.alloc (trB t ta ls.length tc 26)).heap.size := by simp
  have HQ : Hid (∀ wx, Below w.heap.size w wx → Calls Try.prog 96 #[.slice la l.length lc] wx fun e w' => e = .returned (.map (some wx.heap.size)) ∧ (∃ es clock, Mp (wx.heap.size + 1) wx.heap.size (grp l) es clock w') ∧ Below wx.heap.size wx w' ∧ wx.heap.size < w'.heap.size) := fun wx L => bySeat_val la l lc wx hl (I.on L) hwf
  have HFS : Hid (∀ wx B b es clock, Below w.heap.size w wx → Mp B b (grp l) es clock wx → Calls Try.prog 97 #[.map (some b), .agg #[.int .i64 t.id, .int .i64 t.dy, .int .i64 t.co, .int .i64 t.se, .slice ta ls.length tc], .int .i64 day, .int .i64 x, .int .i64 y] wx fun e w' => (∃ v, e = .returned (.tuple #[v, .bool (askB t ls day x y)]) ∧ w'.ownsRow wx.heap.size 77 7 v (resL l t ls day x y).length (hcells (resL l t ls day x y))) ∧ Below wx.heap.size wx w') := fun wx B b es clock L M => freeSeats_val B b es clock l t ta ls tc day x y wx (by unfold maxLen; omega) hls M (J.on L)
  generalize resL l t ls day x y = s at *
  cases s with
  | nil =>
    simp only [firstC, firstS, List.length_nil, Nat.lt_irrefl, decide_false]
    clear hln
    generalize askB t ls day x y = R at *
    go_enter Try.func46, Try.ntmps46
    go_wp2
    generalize w.alloc (trB t ta ls.length tc 26) = W at *
    have K0 : Below w.heap.size w W.drew := N.drew
    have KW0 : Below W.heap.size W W.drew := (Below.refl _ _).drew
    refine wp_region_held_drew (S := (fun w' => Tbx w' w.heap.size t ta ls.length tc)) (by kernel_rfl) ?_ (fun hHeld => ?_)
    · exact HB.out.on KW0 hb0
    refine wpAnyH_take (i := 0) (v := .slice la l.length lc) rfl (by kernel_rfl) (by kernel_rfl) (by kernel_rfl) (fun _ _ _ h => h) (Or.inl ⟨by kernel_rfl, fun w hSw => by first | (go_simp; done) | (dsimp only at hSw; obtain ⟨x0, x1, x2, x3, x4⟩ := hSw; go_simp; done) | rfl⟩) (by assumption) ?_
    simp only [Act.put, List.getElem_toArray, List.getElem_cons_succ, List.getElem_cons_zero, List.setIfInBounds_toArray, List.set_cons_succ, List.set_cons_zero]
    refine wpAnyH_take (i := 2) (v := .agg #[.int .i64 t.id, .int .i64 t.dy, .int .i64 t.co, .int .i64 t.se, .slice ta ls.length tc]) rfl (by kernel_rfl) (by kernel_rfl) (by kernel_rfl) (fun _ _ _ h => h) (Or.inl ⟨by kernel_rfl, fun w hSw => by first | (go_simp; done) | (dsimp only at hSw; obtain ⟨x0, x1, x2, x3, x4⟩ := hSw; go_simp; done) | rfl⟩) (by assumption) ?_
    simp only [Act.put, List.getElem_toArray, List.getElem_cons_succ, List.getElem_cons_zero, List.setIfInBounds_toArray, List.set_cons_succ, List.set_cons_zero]
    refine wpAnyH_take (i := 3) (v := .int .i64 day) rfl (by kernel_rfl) (by kernel_rfl) (by kernel_rfl) (fun _ _ _ h => h) (Or.inl ⟨by kernel_rfl, fun w hSw => by first | (go_simp; done) | (dsimp only at hSw; obtain ⟨x0, x1, x2, x3, x4⟩ := hSw; go_simp; done) | rfl⟩) (by assumption) ?_
    simp only [Act.put, List.getElem_toArray, List.getElem_cons_succ, List.getElem_cons_zero, List.setIfInBounds_toArray, List.set_cons_succ, List.set_cons_zero]
    refine wpAnyH_take (i := 4) (v := .int .i64 x) rfl (by kernel_rfl) (by kernel_rfl) (by kernel_rfl) (fun _ _ _ h => h) (Or.inl ⟨by kernel_rfl, fun w hSw => by first | (go_simp; done) | (dsimp only at hSw; obtain ⟨x0, x1, x2, x3, x4⟩ := hSw; go_simp; done) | rfl⟩) (by assumption) ?_
    simp only [Act.put, List.getElem_toArray, List.getElem_cons_succ, List.getElem_cons_zero, List.setIfInBounds_toArray, List.set_cons_succ, List.set_cons_zero]
    refine wpAnyH_take (i := 5) (v := .int .i64 y) rfl (by kernel_rfl) (by kernel_rfl) (by kernel_rfl) (fun _ _ _ h => h) (Or.inl ⟨by kernel_rfl, fun w hSw => by first | (go_simp; done) | (dsimp only at hSw; obtain ⟨x0, x1, x2, x3, x4⟩ := hSw; go_simp; done) | rfl⟩) (by assumption) ?_
    simp only [Act.put, List.getElem_toArray, List.getElem_cons_succ, List.getElem_cons_zero, List.setIfInBounds_toArray, List.set_cons_succ, List.set_cons_zero]
    refine wpAnyH_ready (rs := [1]) (by kernel_rfl) (by simp) ?_
    refine AllReadyH.cons rfl (fun K hK => ?_) AllReadyH.nil
    go_simp
    go_wp2_with (go_at_call 96; (with_reducible refine (HQ.out _ K0).mono ?_); rintro e w1 ⟨rfl, HM0, L1, hz1⟩; have HM1 : ∃ es clock, Mp (W.heap.size + 1) W.heap.size (grp l) es clock w1 := HM0; have K1 : Below w.heap.size w w1 := K0.trans (L1.mono K0.size); have KW1 : Below W.heap.size W w1 := KW0.trans (L1.mono KW0.size))
    refine hK.out _ _ ?_ (fun hHeld2 => ?_)
    · first | exact HB.out.on KW2 hb0 | exact HB.out.on KW1 hb0
    clear hK K hHeld
    have hHeld := hHeld2
    clear hHeld2
    refine wpAnyH_ready (rs := [6]) (by kernel_rfl) (by simp) ?_
    refine AllReadyH.cons rfl (fun K hK => ?_) AllReadyH.nil
    go_simp
    go_wp2_with (go_at_call 97; obtain ⟨es1, ck1, M1⟩ := HM1; (with_reducible refine (HFS.out _ _ _ es1 ck1 K1 M1).mono ?_); rintro e w2 ⟨⟨v, rfl, O2⟩, L2⟩; have K2 : Below w.heap.size w w2 := K1.trans (L2.mono K1.size); have KW2 : Below W.heap.size W w2 := KW1.trans (L2.mono KW1.size))
    refine hK.out _ _ ?_ (fun hHeld2 => ?_)
    · first | exact HB.out.on KW2 hb0 | exact HB.out.on KW1 hb0
    clear hK K hHeld
    have hHeld := hHeld2
    clear hHeld2
    refine wpAnyH_take (i := 7) (v := .tuple #[v, .bool R]) rfl (by kernel_rfl) (by kernel_rfl) (by kernel_rfl) (fun _ _ _ h => h) (Or.inl ⟨by kernel_rfl, fun w hSw => by first | (go_simp; done) | (dsimp only at hSw; obtain ⟨x0, x1, x2, x3, x4⟩ := hSw; go_simp; done) | rfl⟩) (by assumption) ?_
    simp only [Act.put, List.getElem_toArray, List.getElem_cons_succ, List.getElem_cons_zero, List.setIfInBounds_toArray, List.set_cons_succ, List.set_cons_zero]
    refine wpAnyH_take (i := 8) (v := v) rfl (by kernel_rfl) (by kernel_rfl) (by kernel_rfl) (fun _ _ _ h => h) (Or.inl ⟨by kernel_rfl, fun w hSw => by first | (go_simp; done) | (dsimp only at hSw; obtain ⟨x0, x1, x2, x3, x4⟩ := hSw; go_simp; done) | rfl⟩) (by assumption) ?_
    simp only [Act.put, List.getElem_toArray, List.getElem_cons_succ, List.getElem_cons_zero, List.setIfInBounds_toArray, List.set_cons_succ, List.set_cons_zero]
    refine wpAnyH_take (i := 9) (v := .bool R) rfl (by kernel_rfl) (by kernel_rfl) (by kernel_rfl) (fun _ _ _ h => h) (Or.inl ⟨by kernel_rfl, fun w hSw => by first | (go_simp; done) | (dsimp only at hSw; obtain ⟨x0, x1, x2, x3, x4⟩ := hSw; go_simp; done) | rfl⟩) (by assumption) ?_
    simp only [Act.put, List.getElem_toArray, List.getElem_cons_succ, List.getElem_cons_zero, List.setIfInBounds_toArray, List.set_cons_succ, List.set_cons_zero]
    refine wpAnyH_take (i := 10) (v := v) rfl (by kernel_rfl) (by kernel_rfl) (by kernel_rfl) (fun _ _ _ h => h) (Or.inl ⟨by kernel_rfl, fun w hSw => by first | (go_simp; done) | (dsimp only at hSw; obtain ⟨x0, x1, x2, x3, x4⟩ := hSw; go_simp; done) | rfl⟩) (by assumption) ?_
    simp only [Act.put, List.getElem_toArray, List.getElem_cons_succ, List.getElem_cons_zero, List.setIfInBounds_toArray, List.set_cons_succ, List.set_cons_zero]
    refine wpAnyH_take (i := 11) (v := .bool R) rfl (by kernel_rfl) (by kernel_rfl) (by kernel_rfl) (fun _ _ _ h => h) (Or.inl ⟨by kernel_rfl, fun w hSw => by first | (go_simp; done) | (dsimp only at hSw; obtain ⟨x0, x1, x2, x3, x4⟩ := hSw; go_simp; done) | rfl⟩) (by assumption) ?_
    simp only [Act.put, List.getElem_toArray, List.getElem_cons_succ, List.getElem_cons_zero, List.setIfInBounds_toArray, List.set_cons_succ, List.set_cons_zero]
    refine wpAnyH_done (by kernel_rfl) ?_ _
    clear hHeld HFS
    obtain ⟨va, vc, rfl, -⟩ := own_form O2
    go_wp2
    refine bodyPost_ret (results_tmp3 rfl _ _ _) rfl ?_
    exact ⟨rfl, K2⟩
  | cons p s =>
    simp only [firstC, firstS, List.length_cons, Nat.zero_lt_succ, decide_true] at *
    have h0 : (((s.length + 1 : Nat) : Int) == 0) = false := beq_eq_false_iff_ne.2 (by omega)
    generalize askB t ls day x y = R at *
    go_enter Try.func46, Try.ntmps46
    go_wp2
    generalize w.alloc (trB t ta ls.length tc 26) = W at *
    have K0 : Below w.heap.size w W.drew := N.drew
    have KW0 : Below W.heap.size W W.drew := (Below.refl _ _).drew
    refine wp_region_held_drew (S := (fun w' => Tbx w' w.heap.size t ta ls.length tc)) (by kernel_rfl) ?_ (fun hHeld => ?_)
    · exact HB.out.on KW0 hb0
    refine wpAnyH_take (i := 0) (v := .slice la l.length lc) rfl (by kernel_rfl) (by kernel_rfl) (by kernel_rfl) (fun _ _ _ h => h) (Or.inl ⟨by kernel_rfl, fun w hSw => by first | (go_simp; done) | (dsimp only at hSw; obtain ⟨x0, x1, x2, x3, x4⟩ := hSw; go_simp; done) | rfl⟩) (by assumption) ?_
    simp only [Act.put, List.getElem_toArray, List.getElem_cons_succ, List.getElem_cons_zero, List.setIfInBounds_toArray, List.set_cons_succ, List.set_cons_zero]
    refine wpAnyH_take (i := 2) (v := .agg #[.int .i64 t.id, .int .i64 t.dy, .int .i64 t.co, .int .i64 t.se, .slice ta ls.length tc]) rfl (by kernel_rfl) (by kernel_rfl) (by kernel_rfl) (fun _ _ _ h => h) (Or.inl ⟨by kernel_rfl, fun w hSw => by first | (go_simp; done) | (dsimp only at hSw; obtain ⟨x0, x1, x2, x3, x4⟩ := hSw; go_simp; done) | rfl⟩) (by assumption) ?_
    simp only [Act.put, List.getElem_toArray, List.getElem_cons_succ, List.getElem_cons_zero, List.setIfInBounds_toArray, List.set_cons_succ, List.set_cons_zero]
    refine wpAnyH_take (i := 3) (v := .int .i64 day) rfl (by kernel_rfl) (by kernel_rfl) (by kernel_rfl) (fun _ _ _ h => h) (Or.inl ⟨by kernel_rfl, fun w hSw => by first | (go_simp; done) | (dsimp only at hSw; obtain ⟨x0, x1, x2, x3, x4⟩ := hSw; go_simp; done) | rfl⟩) (by assumption) ?_
    simp only [Act.put, List.getElem_toArray, List.getElem_cons_succ, List.getElem_cons_zero, List.setIfInBounds_toArray, List.set_cons_succ, List.set_cons_zero]
    refine wpAnyH_take (i := 4) (v := .int .i64 x) rfl (by kernel_rfl) (by kernel_rfl) (by kernel_rfl) (fun _ _ _ h => h) (Or.inl ⟨by kernel_rfl, fun w hSw => by first | (go_simp; done) | (dsimp only at hSw; obtain ⟨x0, x1, x2, x3, x4⟩ := hSw; go_simp; done) | rfl⟩) (by assumption) ?_
    simp only [Act.put, List.getElem_toArray, List.getElem_cons_succ, List.getElem_cons_zero, List.setIfInBounds_toArray, List.set_cons_succ, List.set_cons_zero]
    refine wpAnyH_take (i := 5) (v := .int .i64 y) rfl (by kernel_rfl) (by kernel_rfl) (by kernel_rfl) (fun _ _ _ h => h) (Or.inl ⟨by kernel_rfl, fun w hSw => by first | (go_simp; done) | (dsimp only at hSw; obtain ⟨x0, x1, x2, x3, x4⟩ := hSw; go_simp; done) | rfl⟩) (by assumption) ?_
    simp only [Act.put, List.getElem_toArray, List.getElem_cons_succ, List.getElem_cons_zero, List.setIfInBounds_toArray, List.set_cons_succ, List.set_cons_zero]
    refine wpAnyH_ready (rs := [1]) (by kernel_rfl) (by simp) ?_
    refine AllReadyH.cons rfl (fun K hK => ?_) AllReadyH.nil
    go_simp
    go_wp2_with (go_at_call 96; (with_reducible refine (HQ.out _ K0).mono ?_); rintro e w1 ⟨rfl, HM0, L1, hz1⟩; have HM1 : ∃ es clock, Mp (W.heap.size + 1) W.heap.size (grp l) es clock w1 := HM0; have K1 : Below w.heap.size w w1 := K0.trans (L1.mono K0.size); have KW1 : Below W.heap.size W w1 := KW0.trans (L1.mono KW0.size))
    refine hK.out _ _ ?_ (fun hHeld2 => ?_)
    · first | exact HB.out.on KW2 hb0 | exact HB.out.on KW1 hb0
    clear hK K hHeld
    have hHeld := hHeld2
    clear hHeld2
    refine wpAnyH_ready (rs := [6]) (by kernel_rfl) (by simp) ?_
    refine AllReadyH.cons rfl (fun K hK => ?_) AllReadyH.nil
    go_simp
    go_wp2_with (go_at_call 97; obtain ⟨es1, ck1, M1⟩ := HM1; (with_reducible refine (HFS.out _ _ _ es1 ck1 K1 M1).mono ?_); rintro e w2 ⟨⟨v, rfl, O2⟩, L2⟩; have K2 : Below w.heap.size w w2 := K1.trans (L2.mono K1.size); have KW2 : Below W.heap.size W w2 := KW1.trans (L2.mono KW1.size))
    refine hK.out _ _ ?_ (fun hHeld2 => ?_)
    · first | exact HB.out.on KW2 hb0 | exact HB.out.on KW1 hb0
    clear hK K hHeld
    have hHeld := hHeld2
    clear hHeld2
    refine wpAnyH_take (i := 7) (v := .tuple #[v, .bool R]) rfl (by kernel_rfl) (by kernel_rfl) (by kernel_rfl) (fun _ _ _ h => h) (Or.inl ⟨by kernel_rfl, fun w hSw => by first | (go_simp; done) | (dsimp only at hSw; obtain ⟨x0, x1, x2, x3, x4⟩ := hSw; go_simp; done) | rfl⟩) (by assumption) ?_
    simp only [Act.put, List.getElem_toArray, List.getElem_cons_succ, List.getElem_cons_zero, List.setIfInBounds_toArray, List.set_cons_succ, List.set_cons_zero]
    refine wpAnyH_take (i := 8) (v := v) rfl (by kernel_rfl) (by kernel_rfl) (by kernel_rfl) (fun _ _ _ h => h) (Or.inl ⟨by kernel_rfl, fun w hSw => by first | (go_simp; done) | (dsimp only at hSw; obtain ⟨x0, x1, x2, x3, x4⟩ := hSw; go_simp; done) | rfl⟩) (by assumption) ?_
    simp only [Act.put, List.getElem_toArray, List.getElem_cons_succ, List.getElem_cons_zero, List.setIfInBounds_toArray, List.set_cons_succ, List.set_cons_zero]
    refine wpAnyH_take (i := 9) (v := .bool R) rfl (by kernel_rfl) (by kernel_rfl) (by kernel_rfl) (fun _ _ _ h => h) (Or.inl ⟨by kernel_rfl, fun w hSw => by first | (go_simp; done) | (dsimp only at hSw; obtain ⟨x0, x1, x2, x3, x4⟩ := hSw; go_simp; done) | rfl⟩) (by assumption) ?_
    simp only [Act.put, List.getElem_toArray, List.getElem_cons_succ, List.getElem_cons_zero, List.setIfInBounds_toArray, List.set_cons_succ, List.set_cons_zero]
    refine wpAnyH_take (i := 10) (v := v) rfl (by kernel_rfl) (by kernel_rfl) (by kernel_rfl) (fun _ _ _ h => h) (Or.inl ⟨by kernel_rfl, fun w hSw => by first | (go_simp; done) | (dsimp only at hSw; obtain ⟨x0, x1, x2, x3, x4⟩ := hSw; go_simp; done) | rfl⟩) (by assumption) ?_
    simp only [Act.put, List.getElem_toArray, List.getElem_cons_succ, List.getElem_cons_zero, List.setIfInBounds_toArray, List.set_cons_succ, List.set_cons_zero]
    refine wpAnyH_take (i := 11) (v := .bool R) rfl (by kernel_rfl) (by kernel_rfl) (by kernel_rfl) (fun _ _ _ h => h) (Or.inl ⟨by kernel_rfl, fun w hSw => by first | (go_simp; done) | (dsimp only at hSw; obtain ⟨x0, x1, x2, x3, x4⟩ := hSw; go_simp; done) | rfl⟩) (by assumption) ?_
    simp only [Act.put, List.getElem_toArray, List.getElem_cons_succ, List.getElem_cons_zero, List.setIfInBounds_toArray, List.set_cons_succ, List.set_cons_zero]
    refine wpAnyH_done (by kernel_rfl) ?_ _
    clear hHeld HFS
    obtain ⟨g, vc, rfl, -, hg, hc, -⟩ := own_cell O2 (by omega)
    have d2 : w2.cell? ⟨g, 2, none⟩ = some (.int .i64 p.co) := hc 2 _ rfl
    have d3 : w2.cell? ⟨g, 3, none⟩ = some (.int .i64 p.se) := hc 3 _ rfl
    clear hc O2
    go_wp2
    refine wp_region_held_drew (S := (fun w' => w'.cell? ⟨g, 2, none⟩ = some (.int .i64 p.co) ∧ w'.cell? ⟨g, 3, none⟩ = some (.int .i64 p.se))) (by kernel_rfl) ?_ (fun hHeld => ?_)
    · exact ⟨d2, d3⟩
    refine wpAnyH_take (i := 0) (v := .slice (some ⟨g, 0, none⟩) (s.length + 1) vc) rfl (by kernel_rfl) (by kernel_rfl) (by kernel_rfl) (fun _ _ _ h => h) (Or.inl ⟨by kernel_rfl, fun w hSw => by first | (go_simp; done) | (dsimp only at hSw; obtain ⟨hS0, hS1⟩ := hSw; go_simp; done) | rfl⟩) (by assumption) ?_
    simp only [Act.put, List.getElem_toArray, List.getElem_cons_succ, List.getElem_cons_zero, List.setIfInBounds_toArray, List.set_cons_succ, List.set_cons_zero]
    refine wpAnyH_take (i := 1) (v := .pointer (some ⟨g, 0, none⟩)) rfl (by kernel_rfl) (by kernel_rfl) (by kernel_rfl) (fun _ _ _ h => h) (Or.inl ⟨by kernel_rfl, fun w hSw => by first | (go_simp; done) | (dsimp only at hSw; obtain ⟨hS0, hS1⟩ := hSw; go_simp; done) | rfl⟩) (by assumption) ?_
    simp only [Act.put, List.getElem_toArray, List.getElem_cons_succ, List.getElem_cons_zero, List.setIfInBounds_toArray, List.set_cons_succ, List.set_cons_zero]
    refine wpAnyH_take (i := 2) (v := .pointer (some ⟨g, 2, none⟩)) rfl (by kernel_rfl) (by kernel_rfl) (by kernel_rfl) (fun _ _ _ h => h) (Or.inl ⟨by kernel_rfl, fun w hSw => by first | (go_simp; done) | (dsimp only at hSw; obtain ⟨hS0, hS1⟩ := hSw; go_simp; done) | rfl⟩) (by assumption) ?_
    simp only [Act.put, List.getElem_toArray, List.getElem_cons_succ, List.getElem_cons_zero, List.setIfInBounds_toArray, List.set_cons_succ, List.set_cons_zero]
    refine wpAnyH_take (i := 3) (v := .int .i64 p.co) rfl (by kernel_rfl) (by kernel_rfl) (by kernel_rfl) (fun _ _ _ h => h) (Or.inl ⟨by kernel_rfl, fun w hSw => by first | (go_simp; done) | (dsimp only at hSw; obtain ⟨hS0, hS1⟩ := hSw; go_simp; done) | rfl⟩) (by assumption) ?_
    simp only [Act.put, List.getElem_toArray, List.getElem_cons_succ, List.getElem_cons_zero, List.setIfInBounds_toArray, List.set_cons_succ, List.set_cons_zero]
    refine wpAnyH_take (i := 4) (v := .slice (some ⟨g, 0, none⟩) (s.length + 1) vc) rfl (by kernel_rfl) (by kernel_rfl) (by kernel_rfl) (fun _ _ _ h => h) (Or.inl ⟨by kernel_rfl, fun w hSw => by first | (go_simp; done) | (dsimp only at hSw; obtain ⟨hS0, hS1⟩ := hSw; go_simp; done) | rfl⟩) (by assumption) ?_
    simp only [Act.put, List.getElem_toArray, List.getElem_cons_succ, List.getElem_cons_zero, List.setIfInBounds_toArray, List.set_cons_succ, List.set_cons_zero]
    refine wpAnyH_take (i := 5) (v := .pointer (some ⟨g, 0, none⟩)) rfl (by kernel_rfl) (by kernel_rfl) (by kernel_rfl) (fun _ _ _ h => h) (Or.inl ⟨by kernel_rfl, fun w hSw => by first | (go_simp; done) | (dsimp only at hSw; obtain ⟨hS0, hS1⟩ := hSw; go_simp; done) | rfl⟩) (by assumption) ?_
    simp only [Act.put, List.getElem_toArray, List.getElem_cons_succ, List.getElem_cons_zero, List.setIfInBounds_toArray, List.set_cons_succ, List.set_cons_zero]
    refine wpAnyH_take (i := 6) (v := .pointer (some ⟨g, 3, none⟩)) rfl (by kernel_rfl) (by kernel_rfl) (by kernel_rfl) (fun _ _ _ h => h) (Or.inl ⟨by kernel_rfl, fun w hSw => by first | (go_simp; done) | (dsimp only at hSw; obtain ⟨hS0, hS1⟩ := hSw; go_simp; done) | rfl⟩) (by assumption) ?_
    simp only [Act.put, List.getElem_toArray, List.getElem_cons_succ, List.getElem_cons_zero, List.setIfInBounds_toArray, List.set_cons_succ, List.set_cons_zero]
    refine wpAnyH_take (i := 7) (v := .int .i64 p.se) rfl (by kernel_rfl) (by kernel_rfl) (by kernel_rfl) (fun _ _ _ h => h) (Or.inl ⟨by kernel_rfl, fun w hSw => by first | (go_simp; done) | (dsimp only at hSw; obtain ⟨hS0, hS1⟩ := hSw; go_simp; done) | rfl⟩) (by assumption) ?_
    simp only [Act.put, List.getElem_toArray, List.getElem_cons_succ, List.getElem_cons_zero, List.setIfInBounds_toArray, List.set_cons_succ, List.set_cons_zero]
    refine wpAnyH_take (i := 8) (v := .int .i64 p.co) rfl (by kernel_rfl) (by kernel_rfl) (by kernel_rfl) (fun _ _ _ h => h) (Or.inl ⟨by kernel_rfl, fun w hSw => by first | (go_simp; done) | (dsimp only at hSw; obtain ⟨hS0, hS1⟩ := hSw; go_simp; done) | rfl⟩) (by assumption) ?_
    simp only [Act.put, List.getElem_toArray, List.getElem_cons_succ, List.getElem_cons_zero, List.setIfInBounds_toArray, List.set_cons_succ, List.set_cons_zero]
    refine wpAnyH_take (i := 9) (v := .int .i64 p.se) rfl (by kernel_rfl) (by kernel_rfl) (by kernel_rfl) (fun _ _ _ h => h) (Or.inl ⟨by kernel_rfl, fun w hSw => by first | (go_simp; done) | (dsimp only at hSw; obtain ⟨hS0, hS1⟩ := hSw; go_simp; done) | rfl⟩) (by assumption) ?_
    simp only [Act.put, List.getElem_toArray, List.getElem_cons_succ, List.getElem_cons_zero, List.setIfInBounds_toArray, List.set_cons_succ, List.set_cons_zero]
    refine wpAnyH_take (i := 10) (v := .bool true) rfl (by kernel_rfl) (by kernel_rfl) (by kernel_rfl) (fun _ _ _ h => h) (Or.inl ⟨by kernel_rfl, fun w hSw => by first | (go_simp; done) | (dsimp only at hSw; obtain ⟨hS0, hS1⟩ := hSw; go_simp; done) | rfl⟩) (by assumption) ?_
    simp only [Act.put, List.getElem_toArray, List.getElem_cons_succ, List.getElem_cons_zero, List.setIfInBounds_toArray, List.set_cons_succ, List.set_cons_zero]
    refine wpAnyH_done (by kernel_rfl) ?_ _
    go_wp2
    refine bodyPost_ret (results_tmp3 rfl _ _ _) rfl ?_
    exact ⟨rfl, K2.drew⟩


set_option maxRecDepth 100000 in
set_option maxHeartbeats 4000000 in
theorem specCount_val (la : Option Addr) (l : List Hl) (lc : Nat) (t : Hd) (ta : Option Addr) (ls : List St) (tc : Nat) (day x y : Int) (w : World) (hl : l.length ≤ 1048576) (hls : ls.length ≤ maxLen) (I : Holds w la l) (J : Stops w ta ls) (hwf : Wfs l) :
    Calls Try.prog 51 #[.slice la l.length lc, trV t ta ls.length tc, .int .i64 day, .int .i64 x, .int .i64 y] w fun e w' => e = .returned (.int .i64 (cntV l t ls day x y)) ∧ Below w.heap.size w w' := by
  have N := new_below w (trB t ta ls.length tc 26)
  have HB : Hid (Tbx (w.alloc (trB t ta ls.length tc 26)) w.heap.size t ta ls.length tc) := Tbx.of (heap_new _ _)
  have hb0 : w.heap.size < (w.alloc (trB t ta ls.length tc 26)).heap.size := by simp
  have HA : Hid (∀ _ : Unit, _) := fun _ => specAsked_val t ta ls tc day x y _ hls (J.on N)
  by_cases ha : askB t ls day x y = true
  · rw [ha] at HA
    obtain ⟨i1, i2, i3, i4, i5⟩ := run_is (by unfold askB at ha; rw [Bool.and_eq_true] at ha; exact ha.1 : runsB t ls day = true)
    have HQ : Hid (∀ wx, Below w.heap.size w wx → _) := fun wx (L : Below w.heap.size w wx) => specAll_val t ta ls.length tc day x y t.co.toNat t.se.toNat wx (by omega) (by omega) (by omega) (by omega) la l lc (by unfold maxLen; omega) (I.on L)
    have HV : Hid (cntV l t ls day x y = ((freeL l t day x y).length : Int)) := by
      show _ = _
      unfold cntV resL
      rw [if_pos ha, if_pos ha]
    clear ha i1 i2 i3 i4 i5
    go_enter Try.func51, Try.ntmps51
    go_wp2_with fail
    refine (HA.out ()).mono ?_
    rintro e w1 ⟨rfl, L1⟩
    have K1 := join_below N L1
    obtain ⟨x0, x1, x2, x3, x4⟩ := HB.out.on L1 hb0
    go_wp2_with fail
    refine (HQ.out _ K1).mono ?_
    rintro e w2 ⟨v, rfl, O2, L2⟩
    obtain ⟨va, vc, rfl, -⟩ := own_form O2
    go_wp2
    go_ret
    exact ⟨by rw [HV.out] <;> rfl, join_below K1 L2⟩
  · have ha : askB t ls day x y = false := Bool.eq_false_iff.2 ha
    rw [ha] at HA
    have HV : Hid (cntV l t ls day x y = -1) := if_neg (by rw [ha]; simp)
    clear ha
    go_enter Try.func51, Try.ntmps51
    go_wp2_with fail
    refine (HA.out ()).mono ?_
    rintro e w1 ⟨rfl, L1⟩
    go_wp2
    go_ret
    exact ⟨by rw [HV.out] <;> rfl, join_below N L1⟩

set_option maxRecDepth 100000 in
set_option maxHeartbeats 4000000 in
theorem specFirst_val (la : Option Addr) (l : List Hl) (lc : Nat) (t : Hd) (ta : Option Addr) (ls : List St) (tc : Nat) (day x y : Int) (w : World) (hl : l.length ≤ 1048576) (hls : ls.length ≤ maxLen) (I : Holds w la l) (J : Stops w ta ls) (hwf : Wfs l) :
    Calls Try.prog 49 #[.slice la l.length lc, trV t ta ls.length tc, .int .i64 day, .int .i64 x, .int .i64 y] w fun e w' => e = .returned (.tuple #[.int .i64 (firstC (resL l t ls day x y)), .int .i64 (firstS (resL l t ls day x y)), .bool (decide (0 < (resL l t ls day x y).length))]) ∧ Below w.heap.size w w' := by
  have hln := res_len l t ls day x y
  have N := new_below w (trB t ta ls.length tc 26)
  have HB : Hid (Tbx (w.alloc (trB t ta ls.length tc 26)) w.heap.size t ta ls.length tc) := Tbx.of (heap_new _ _)
  have hb0 : w.heap.size < (w.alloc (trB t ta ls.length tc 26)).heap.size := by simp
  have HA : Hid (∀ _ : Unit, _) := fun _ => specAsked_val t ta ls tc day x y _ hls (J.on N)
  by_cases ha : askB t ls day x y = true
  · rw [ha] at HA
    obtain ⟨i1, i2, i3, i4, i5⟩ := run_is (by unfold askB at ha; rw [Bool.and_eq_true] at ha; exact ha.1 : runsB t ls day = true)
    have HQ : Hid (∀ wx, Below w.heap.size w wx → _) := fun wx (L : Below w.heap.size w wx) => specAll_val t ta ls.length tc day x y t.co.toNat t.se.toNat wx (by omega) (by omega) (by omega) (by omega) la l lc (by unfold maxLen; omega) (I.on L)
    have hv : resL l t ls day x y = freeL l t day x y := if_pos ha
    rw [hv] at hln ⊢
    clear ha i1 i2 i3 i4 i5 hv
    generalize freeL l t day x y = s at *
    cases s with
    | nil =>
      simp only [firstC, firstS, List.length_nil, Nat.lt_irrefl, decide_false]
      clear hln
      go_enter Try.func49, Try.ntmps49
      go_wp2_with fail
      refine (HA.out ()).mono ?_
      rintro e w1 ⟨rfl, L1⟩
      have K1 := join_below N L1
      obtain ⟨x0, x1, x2, x3, x4⟩ := HB.out.on L1 hb0
      go_wp2_with fail
      refine (HQ.out _ K1).mono ?_
      rintro e w2 ⟨v, rfl, O2, L2⟩
      have K2 := join_below K1 L2
      clear HQ x0 x1 x2 x3 x4
      obtain ⟨va, vc, rfl, -⟩ := own_form O2
      go_wp2
      refine bodyPost_ret (results_tmp3 rfl _ _ _) rfl ?_
      exact ⟨rfl, K2⟩
    | cons p s =>
      simp only [firstC, firstS, List.length_cons, Nat.zero_lt_succ, decide_true] at *
      have h0 : (((s.length + 1 : Nat) : Int) == 0) = false := beq_eq_false_iff_ne.2 (by omega)
      go_enter Try.func49, Try.ntmps49
      go_wp2_with fail
      refine (HA.out ()).mono ?_
      rintro e w1 ⟨rfl, L1⟩
      have K1 := join_below N L1
      obtain ⟨x0, x1, x2, x3, x4⟩ := HB.out.on L1 hb0
      go_wp2_with fail
      refine (HQ.out _ K1).mono ?_
      rintro e w2 ⟨v, rfl, O2, L2⟩
      have K2 := join_below K1 L2
      clear HQ x0 x1 x2 x3 x4
      obtain ⟨g, vc, rfl, -, hg, hc, -⟩ := own_cell O2 (by omega)
      have d2 : w2.cell? ⟨g, 2, none⟩ = some (.int .i64 p.co) := hc 2 _ rfl
      have d3 : w2.cell? ⟨g, 3, none⟩ = some (.int .i64 p.se) := hc 3 _ rfl
      clear hc O2
      go_wp2
      refine wp_region_held_drew (S := (fun w' => w'.cell? ⟨g, 2, none⟩ = some (.int .i64 p.co) ∧ w'.cell? ⟨g, 3, none⟩ = some (.int .i64 p.se))) (by kernel_rfl) ?_ (fun hHeld => ?_)
      · exact ⟨d2, d3⟩
      refine wpAnyH_take (i := 0) (v := .slice (some ⟨g, 0, none⟩) (s.length + 1) vc) rfl (by kernel_rfl) (by kernel_rfl) (by kernel_rfl) (fun _ _ _ h => h) (Or.inl ⟨by kernel_rfl, fun w hSw => by first | (go_simp; done) | (dsimp only at hSw; obtain ⟨hS0, hS1⟩ := hSw; go_simp; done) | rfl⟩) (by assumption) ?_
      simp only [Act.put, List.getElem_toArray, List.getElem_cons_succ, List.getElem_cons_zero, List.setIfInBounds_toArray, List.set_cons_succ, List.set_cons_zero]
      refine wpAnyH_take (i := 1) (v := .pointer (some ⟨g, 0, none⟩)) rfl (by kernel_rfl) (by kernel_rfl) (by kernel_rfl) (fun _ _ _ h => h) (Or.inl ⟨by kernel_rfl, fun w hSw => by first | (go_simp; done) | (dsimp only at hSw; obtain ⟨hS0, hS1⟩ := hSw; go_simp; done) | rfl⟩) (by assumption) ?_
      simp only [Act.put, List.getElem_toArray, List.getElem_cons_succ, List.getElem_cons_zero, List.setIfInBounds_toArray, List.set_cons_succ, List.set_cons_zero]
      refine wpAnyH_take (i := 2) (v := .pointer (some ⟨g, 2, none⟩)) rfl (by kernel_rfl) (by kernel_rfl) (by kernel_rfl) (fun _ _ _ h => h) (Or.inl ⟨by kernel_rfl, fun w hSw => by first | (go_simp; done) | (dsimp only at hSw; obtain ⟨hS0, hS1⟩ := hSw; go_simp; done) | rfl⟩) (by assumption) ?_
      simp only [Act.put, List.getElem_toArray, List.getElem_cons_succ, List.getElem_cons_zero, List.setIfInBounds_toArray, List.set_cons_succ, List.set_cons_zero]
      refine wpAnyH_take (i := 3) (v := .int .i64 p.co) rfl (by kernel_rfl) (by kernel_rfl) (by kernel_rfl) (fun _ _ _ h => h) (Or.inl ⟨by kernel_rfl, fun w hSw => by first | (go_simp; done) | (dsimp only at hSw; obtain ⟨hS0, hS1⟩ := hSw; go_simp; done) | rfl⟩) (by assumption) ?_
      simp only [Act.put, List.getElem_toArray, List.getElem_cons_succ, List.getElem_cons_zero, List.setIfInBounds_toArray, List.set_cons_succ, List.set_cons_zero]
      refine wpAnyH_take (i := 4) (v := .slice (some ⟨g, 0, none⟩) (s.length + 1) vc) rfl (by kernel_rfl) (by kernel_rfl) (by kernel_rfl) (fun _ _ _ h => h) (Or.inl ⟨by kernel_rfl, fun w hSw => by first | (go_simp; done) | (dsimp only at hSw; obtain ⟨hS0, hS1⟩ := hSw; go_simp; done) | rfl⟩) (by assumption) ?_
      simp only [Act.put, List.getElem_toArray, List.getElem_cons_succ, List.getElem_cons_zero, List.setIfInBounds_toArray, List.set_cons_succ, List.set_cons_zero]
      refine wpAnyH_take (i := 5) (v := .pointer (some ⟨g, 0, none⟩)) rfl (by kernel_rfl) (by kernel_rfl) (by kernel_rfl) (fun _ _ _ h => h) (Or.inl ⟨by kernel_rfl, fun w hSw => by first | (go_simp; done) | (dsimp only at hSw; obtain ⟨hS0, hS1⟩ := hSw; go_simp; done) | rfl⟩) (by assumption) ?_
      simp only [Act.put, List.getElem_toArray, List.getElem_cons_succ, List.getElem_cons_zero, List.setIfInBounds_toArray, List.set_cons_succ, List.set_cons_zero]
      refine wpAnyH_take (i := 6) (v := .pointer (some ⟨g, 3, none⟩)) rfl (by kernel_rfl) (by kernel_rfl) (by kernel_rfl) (fun _ _ _ h => h) (Or.inl ⟨by kernel_rfl, fun w hSw => by first | (go_simp; done) | (dsimp only at hSw; obtain ⟨hS0, hS1⟩ := hSw; go_simp; done) | rfl⟩) (by assumption) ?_
      simp only [Act.put, List.getElem_toArray, List.getElem_cons_succ, List.getElem_cons_zero, List.setIfInBounds_toArray, List.set_cons_succ, List.set_cons_zero]
      refine wpAnyH_take (i := 7) (v := .int .i64 p.se) rfl (by kernel_rfl) (by kernel_rfl) (by kernel_rfl) (fun _ _ _ h => h) (Or.inl ⟨by kernel_rfl, fun w hSw => by first | (go_simp; done) | (dsimp only at hSw; obtain ⟨hS0, hS1⟩ := hSw; go_simp; done) | rfl⟩) (by assumption) ?_
      simp only [Act.put, List.getElem_toArray, List.getElem_cons_succ, List.getElem_cons_zero, List.setIfInBounds_toArray, List.set_cons_succ, List.set_cons_zero]
      refine wpAnyH_take (i := 8) (v := .int .i64 p.co) rfl (by kernel_rfl) (by kernel_rfl) (by kernel_rfl) (fun _ _ _ h => h) (Or.inl ⟨by kernel_rfl, fun w hSw => by first | (go_simp; done) | (dsimp only at hSw; obtain ⟨hS0, hS1⟩ := hSw; go_simp; done) | rfl⟩) (by assumption) ?_
      simp only [Act.put, List.getElem_toArray, List.getElem_cons_succ, List.getElem_cons_zero, List.setIfInBounds_toArray, List.set_cons_succ, List.set_cons_zero]
      refine wpAnyH_take (i := 9) (v := .int .i64 p.se) rfl (by kernel_rfl) (by kernel_rfl) (by kernel_rfl) (fun _ _ _ h => h) (Or.inl ⟨by kernel_rfl, fun w hSw => by first | (go_simp; done) | (dsimp only at hSw; obtain ⟨hS0, hS1⟩ := hSw; go_simp; done) | rfl⟩) (by assumption) ?_
      simp only [Act.put, List.getElem_toArray, List.getElem_cons_succ, List.getElem_cons_zero, List.setIfInBounds_toArray, List.set_cons_succ, List.set_cons_zero]
      refine wpAnyH_take (i := 10) (v := .bool true) rfl (by kernel_rfl) (by kernel_rfl) (by kernel_rfl) (fun _ _ _ h => h) (Or.inl ⟨by kernel_rfl, fun w hSw => by first | (go_simp; done) | (dsimp only at hSw; obtain ⟨hS0, hS1⟩ := hSw; go_simp; done) | rfl⟩) (by assumption) ?_
      simp only [Act.put, List.getElem_toArray, List.getElem_cons_succ, List.getElem_cons_zero, List.setIfInBounds_toArray, List.set_cons_succ, List.set_cons_zero]
      refine wpAnyH_done (by kernel_rfl) ?_ _
      go_wp2
      refine bodyPost_ret (results_tmp3 rfl _ _ _) rfl ?_
      exact ⟨rfl, K2.drew⟩
  · have ha : askB t ls day x y = false := Bool.eq_false_iff.2 ha
    rw [ha] at HA
    have hv : resL l t ls day x y = [] := if_neg (by rw [ha]; simp)
    rw [hv]
    clear ha hv
    go_enter Try.func49, Try.ntmps49
    go_wp2_with fail
    refine (HA.out ()).mono ?_
    rintro e w1 ⟨rfl, L1⟩
    go_wp2
    refine bodyPost_ret (results_tmp3 rfl _ _ _) rfl ?_
    exact ⟨rfl, join_below N L1⟩

end Se
end Go.Proofs.Ytiollklighmojad

/- A number more in an ascending list, by the model. -/
import Derived.Test.YtbmfhdlbbaabgaaCeRevS
import Derived.Deep.RegionHeld3
namespace Go.Proofs.Ytbmfhdlbbaabgaa
namespace Hn
open Go.ChangeShapes Go.WideShapes Go.ChangeAt Go.RowKit Go.Joins
open Pk (new_below join_below cell_at heap_new frozen_at lt_of kept heap_old Drawn info_of Room own_form own_below)
set_option linter.unusedSimpArgs false
set_option linter.unusedVariables false

set_option maxRecDepth 100000 in
set_option maxHeartbeats 8000000 in
theorem sorted_val (b u : Nat) (d : List Int) (c : Nat) (x : Int) (w : World) (hz : d.length ≤ 1048576) (hc : d.length ≤ c) (I : Ints w (some ⟨b, u, none⟩) d) :
    Calls Try.prog 51 #[.slice (some ⟨b, u, none⟩) d.length c, .int .i64 x] w fun e w' => ∃ g c', e = .returned (.slice (some ⟨g, 0, none⟩) (insI x d).length c') ∧ (insI x d).length ≤ c' ∧ w'.ownsRow w.heap.size 3 1 (.slice (some ⟨g, 0, none⟩) (insI x d).length c') (insI x d).length (icells (insI x d)) ∧ Below w.heap.size w w' := by
  obtain ⟨i0, hi, hz0, hz1, hz3⟩ := info_of intInfo
  go_enter Try.func51, Try.ntmps51
  go_wp2
  go_loop [5] (fun i => ∃ k : Nat, k ≤ d.length ∧ i = .int .i64 k ∧ Hid (posI x (d.drop k) + k = posI x d)) (fun i => d.length - (intOf i).toNat)
  case atStart => exact ⟨0, by omega, rfl, rfl⟩
  case round =>
    obtain ⟨k, hk, rfl, HP⟩ := hrel
    by_cases hkn : k < d.length
    · obtain ⟨b', u', e', -, hcx⟩ := I.at k hkn
      simp only [Option.some.injEq, Addr.mk.injEq, and_true] at e'
      obtain ⟨rfl, rfl⟩ := e'
      by_cases hx : d[k] < x
      · have dd : decide (d[k] < x) = true := decide_eq_true hx
        have HN : Hid (posI x (d.drop (k + 1)) + (k + 1) = posI x d) := by
          show _ = _
          rw [← HP.out, pos_step hkn hx]
          omega
        clear hx HP
        generalize d[k] = z at *
        go_wp2
        go_round
        case rel => exact ⟨k + 1, by omega, by go_num, HN⟩
        case measure => simp [intOf]; omega
      · have dd : decide (d[k] < x) = false := decide_eq_false hx
        have HKP : Hid (posI x d = k) := by
          show _ = _
          rw [← HP.out, pos_stop hkn hx]
          omega
        clear hx HP
        generalize d[k] = z at *
        go_wp2
        have hkc : k ≤ c := by omega
        have hkz : (0 : Int) ≤ (k : Int) := by omega
        have hkn2 : (k : Int) ≤ (d.length : Int) := by omega
        have hkc2 : (k : Int) ≤ (c : Int) := by omega
        have hnc : (d.length : Int) ≤ (c : Int) := by omega
        have hsrc1 : ∀ W, Below w.heap.size w W → _ := fun W l => ints_take k (I.on l)
        obtain ⟨u2, hu2a, hu2b⟩ : ∃ u2, (c = k → u2 = u) ∧ (¬ c = k → u2 = u + k) := ⟨if c = k then u else u + k, fun h => if_pos h, fun h => if_neg h⟩
        have hsrc2 : ∀ W, Below w.heap.size w W → _ := fun W l => ints_rest (n := c) hc hk hu2b (I.on l)
        have HEQ : Hid (∀ (v : Value) (W : World), W.ownsRow w.heap.size 3 1 v (k + 1 + (d.length - k)) (icells (d.take k) ++ [.int .i64 x] ++ icells (d.drop k)) → ∃ g c', v = .slice (some ⟨g, 0, none⟩) (insI x d).length c' ∧ (insI x d).length ≤ c' ∧ W.ownsRow w.heap.size 3 1 (.slice (some ⟨g, 0, none⟩) (insI x d).length c') (insI x d).length (icells (insI x d))) := by
          intro v W O
          have e1 : k + 1 + (d.length - k) = (insI x d).length := by rw [ins_len]; omega
          have e2 : icells (d.take k) ++ [.int .i64 x] ++ icells (d.drop k) = icells (insI x d) := by rw [ins_is, HKP.out]; simp [icells]
          rw [e1, e2] at O
          have O2 := O
          obtain ⟨h1, ⟨rfl, h0⟩ | ⟨g, cap, cur, rfl, hg, hh, hnc, hr⟩⟩ := O
          · rw [ins_len] at h0; omega
          · exact ⟨g, cap, rfl, hnc, O2⟩
        refine wp_region_held_drew (S := (fun _ => True)) (by kernel_rfl) ?_ (fun hHeld => ?_)
        · trivial
        refine wpAnyH_take (i := 1) (v := .slice (some ⟨b, u, none⟩) d.length c) rfl (by kernel_rfl) (by kernel_rfl) (by kernel_rfl) (fun _ _ _ h => h) (Or.inl ⟨by kernel_rfl, fun w hSw => by first | (go_simp; done) | (dsimp only at hSw; have s0 := hSw; go_simp; done) | rfl⟩) (by assumption) ?_
        simp only [Act.put, List.getElem_toArray, List.getElem_cons_succ, List.getElem_cons_zero, List.setIfInBounds_toArray, List.set_cons_succ, List.set_cons_zero]
        refine wpAnyH_take (i := 2) (v := .int .i64 k) rfl (by kernel_rfl) (by kernel_rfl) (by kernel_rfl) (fun _ _ _ h => h) (Or.inl ⟨by kernel_rfl, fun w hSw => by first | (go_simp; done) | (dsimp only at hSw; have s0 := hSw; go_simp; done) | rfl⟩) (by assumption) ?_
        simp only [Act.put, List.getElem_toArray, List.getElem_cons_succ, List.getElem_cons_zero, List.setIfInBounds_toArray, List.set_cons_succ, List.set_cons_zero]
        refine wpAnyH_take (i := 3) (v := .slice (some ⟨b, u, none⟩) k c) rfl (by kernel_rfl) (by kernel_rfl) (by kernel_rfl) (fun _ _ _ h => h) (Or.inl ⟨by kernel_rfl, fun w hSw => by first | (go_simp; done) | (dsimp only at hSw; have s0 := hSw; go_simp; done) | rfl⟩) (by assumption) ?_
        simp only [Act.put, List.getElem_toArray, List.getElem_cons_succ, List.getElem_cons_zero, List.setIfInBounds_toArray, List.set_cons_succ, List.set_cons_zero]
        refine wpAnyH_take (i := 5) (v := .int .i64 x) rfl (by kernel_rfl) (by kernel_rfl) (by kernel_rfl) (fun _ _ _ h => h) (Or.inl ⟨by kernel_rfl, fun w hSw => by first | (go_simp; done) | (dsimp only at hSw; have s0 := hSw; go_simp; done) | rfl⟩) (by assumption) ?_
        simp only [Act.put, List.getElem_toArray, List.getElem_cons_succ, List.getElem_cons_zero, List.setIfInBounds_toArray, List.set_cons_succ, List.set_cons_zero]
        refine wpAnyH_take (i := 8) (v := .slice (some ⟨b, u, none⟩) d.length c) rfl (by kernel_rfl) (by kernel_rfl) (by kernel_rfl) (fun _ _ _ h => h) (Or.inl ⟨by kernel_rfl, fun w hSw => by first | (go_simp; done) | (dsimp only at hSw; have s0 := hSw; go_simp; done) | rfl⟩) (by assumption) ?_
        simp only [Act.put, List.getElem_toArray, List.getElem_cons_succ, List.getElem_cons_zero, List.setIfInBounds_toArray, List.set_cons_succ, List.set_cons_zero]
        refine wpAnyH_take (i := 9) (v := .int .i64 k) rfl (by kernel_rfl) (by kernel_rfl) (by kernel_rfl) (fun _ _ _ h => h) (Or.inl ⟨by kernel_rfl, fun w hSw => by first | (go_simp; done) | (dsimp only at hSw; have s0 := hSw; go_simp; done) | rfl⟩) (by assumption) ?_
        simp only [Act.put, List.getElem_toArray, List.getElem_cons_succ, List.getElem_cons_zero, List.setIfInBounds_toArray, List.set_cons_succ, List.set_cons_zero]
        refine wpAnyH_take (i := 10) (v := .slice (some ⟨b, u2, none⟩) (d.length - k) (c - k)) rfl (by kernel_rfl) (by kernel_rfl) (by kernel_rfl) (fun _ _ _ h => h) (Or.inl ⟨by kernel_rfl, fun w hSw => by (by_cases hxk : c = k; (· (rw [hu2a hxk]; go_simp; done)); (· (rw [hu2b hxk]; go_simp; done)))⟩) (by assumption) ?_
        simp only [Act.put, List.getElem_toArray, List.getElem_cons_succ, List.getElem_cons_zero, List.setIfInBounds_toArray, List.set_cons_succ, List.set_cons_zero]
        have KD := (Below.refl w.heap.size w).drew
        generalize w.drew = vd at *
        refine wpAnyH_ready (rs := [0, 6]) (by kernel_rfl) (by simp) ?_
        refine AllReadyH.cons rfl (fun K hK => ?_) (AllReadyH.cons rfl (fun K hK => ?_) (AllReadyH.nil))
        · go_simp
          have zN18 := new_below vd (.cells #[] 3)
          have zm18 := heap_new vd (.cells #[] 3)
          have zK18 := join_below KD zN18
          have zO18 := own_lower (nil_row vd 3 1) (show w.heap.size ≤ vd.heap.size from (KD).size)
          refine hK.out _ _ ?_ (fun hHeld2 => ?_)
          · trivial
          clear hK K hHeld
          have hHeld := hHeld2
          clear hHeld2
          obtain ⟨zav18, zhav18⟩ : ∃ av, (Value.slice (some ⟨vd.heap.size, 0, none⟩) 0 0) = av := ⟨_, rfl⟩
          rw [zhav18] at zO18
          try rw [zhav18]
          clear zhav18
          generalize (vd.alloc (.cells #[] 3)) = zw18 at *
          refine wpAnyH_ready (rs := [4, 6]) (by kernel_rfl) (by simp) ?_
          refine AllReadyH.cons rfl (fun K hK => ?_) (AllReadyH.cons rfl (fun K hK => ?_) (AllReadyH.nil))
          · rw [if_pos (by kernel_rfl)]
            refine wp_append_at _ _ 24 rfl w.heap.size 3 i0 (.int .i64 0) 1 8 Try.underlying24 hi hz0 hz1 hz3 rfl (by omega) _ _ _ rfl zO18 ⟨b, u, none⟩ k c (icells (d.take k)) rfl (by simp [icells]; omega) (fun j v hv => (hsrc1 _ (zK18)) j v hv) (icells_one _) (by unfold maxLen; omega) (by omega) (by have h3 := (zK18).size; omega) ?_
            intro zv19 zw19 zO19 zG19 zhl19
            have zK19 := (zK18).grown zG19 (zK18).size (fun j hj => (zO18.lt j hj).1)
            rw [Nat.zero_add, List.nil_append] at zO19
            clear zG19 zhl19
            refine hK.out _ _ ?_ (fun hHeld2 => ?_)
            · trivial
            clear hK K hHeld
            have hHeld := hHeld2
            clear hHeld2
            refine wpAnyH_ready (rs := [6]) (by kernel_rfl) (by simp) ?_
            refine AllReadyH.cons rfl (fun K hK => ?_) (AllReadyH.nil)
            go_simp
            have zN20 := new_below zw19 (.cells #[.int .i64 x] 3)
            have zm20 := heap_new zw19 (.cells #[.int .i64 x] 3)
            have zK20 := join_below zK19 zN20
            have zO20 := own_below zO19 zN20 (Nat.le_refl _)
            have zhn20 : (zv19).ownBlock ≠ some zw19.heap.size := fun h => by have := (zO19.lt _ h).2; omega
            refine hK.out _ _ ?_ (fun hHeld2 => ?_)
            · trivial
            clear hK K hHeld
            have hHeld := hHeld2
            clear hHeld2
            obtain ⟨zad20, zhad20⟩ : ∃ ad, zw19.heap.size = ad := ⟨_, rfl⟩
            rw [zhad20] at zm20 zhn20
            try rw [zhad20]
            clear zhad20
            generalize (zw19.alloc (.cells #[.int .i64 x] 3)) = zw20 at *
            refine wpAnyH_ready (rs := [7]) (by kernel_rfl) (by simp) ?_
            refine AllReadyH.cons rfl (fun K hK => ?_) (AllReadyH.nil)
            rw [if_pos (by kernel_rfl)]
            refine wp_append_at _ _ 24 rfl w.heap.size 3 i0 (.int .i64 0) 1 8 Try.underlying24 hi hz0 hz1 hz3 rfl (by omega) _ _ _ rfl zO20 ⟨zad20, 0, none⟩ 1 1 [.int .i64 x] rfl rfl (one_at zm20) (by intro u hu; simp at hu; subst hu; rfl) (by unfold maxLen; omega) (by omega) (by have h3 := (zK20).size; omega) ?_
            intro zv21 zw21 zO21 zG21 zhl21
            have zK21 := (zK20).grown zG21 (zK20).size (fun j hj => (zO20.lt j hj).1)
            clear zG21 zhl21
            refine hK.out _ _ ?_ (fun hHeld2 => ?_)
            · trivial
            clear hK K hHeld
            have hHeld := hHeld2
            clear hHeld2
            refine wpAnyH_ready (rs := [11]) (by kernel_rfl) (by simp) ?_
            refine AllReadyH.cons rfl (fun K hK => ?_) (AllReadyH.nil)
            rw [if_pos (by kernel_rfl)]
            refine wp_append_at _ _ 24 rfl w.heap.size 3 i0 (.int .i64 0) 1 8 Try.underlying24 hi hz0 hz1 hz3 rfl (by omega) _ _ _ rfl zO21 ⟨b, u2, none⟩ (d.length - k) (c - k) (icells (d.drop k)) rfl (by simp [icells]) (fun j v hv => (hsrc2 _ (zK21)) j v hv) (icells_one _) (by unfold maxLen; omega) (by omega) (by have h3 := (zK21).size; omega) ?_
            intro zv22 zw22 zO22 zG22 zhl22
            have zK22 := (zK21).grown zG22 (zK21).size (fun j hj => (zO21.lt j hj).1)
            clear zG22 zhl22
            refine hK.out _ _ ?_ (fun hHeld2 => ?_)
            · trivial
            clear hK K hHeld
            have hHeld := hHeld2
            clear hHeld2
            refine wpAnyH_ready (rs := [12]) (by kernel_rfl) (by simp) ?_
            refine AllReadyH.cons rfl (fun K hK => ?_) (AllReadyH.nil)
            go_simp
            refine hK.out _ _ ?_ (fun hHeld2 => ?_)
            · trivial
            clear hK K hHeld
            have hHeld := hHeld2
            clear hHeld2
            refine wpAnyH_done (by kernel_rfl) ?_ _
            obtain ⟨g, c', hv, hcc, hO⟩ := HEQ.out _ _ zO22
            subst hv
            go_wp2
            go_ret
            exact ⟨g, c', rfl, hcc, hO, zK22⟩
          · go_simp
            have zN24 := new_below zw18 (.cells #[.int .i64 x] 3)
            have zm24 := heap_new zw18 (.cells #[.int .i64 x] 3)
            have zK24 := join_below zK18 zN24
            have zO24 := own_below zO18 zN24 (Nat.le_refl _)
            have zhn24 : (zav18).ownBlock ≠ some zw18.heap.size := fun h => by have := (zO18.lt _ h).2; omega
            refine hK.out _ _ ?_ (fun hHeld2 => ?_)
            · trivial
            clear hK K hHeld
            have hHeld := hHeld2
            clear hHeld2
            obtain ⟨zad24, zhad24⟩ : ∃ ad, zw18.heap.size = ad := ⟨_, rfl⟩
            rw [zhad24] at zm24 zhn24
            try rw [zhad24]
            clear zhad24
            generalize (zw18.alloc (.cells #[.int .i64 x] 3)) = zw24 at *
            refine wpAnyH_ready (rs := [4]) (by kernel_rfl) (by simp) ?_
            refine AllReadyH.cons rfl (fun K hK => ?_) (AllReadyH.nil)
            rw [if_pos (by kernel_rfl)]
            refine wp_append_at _ _ 24 rfl w.heap.size 3 i0 (.int .i64 0) 1 8 Try.underlying24 hi hz0 hz1 hz3 rfl (by omega) _ _ _ rfl zO24 ⟨b, u, none⟩ k c (icells (d.take k)) rfl (by simp [icells]; omega) (fun j v hv => (hsrc1 _ (zK24)) j v hv) (icells_one _) (by unfold maxLen; omega) (by omega) (by have h3 := (zK24).size; omega) ?_
            intro zv25 zw25 zO25 zG25 zhl25
            have zK25 := (zK24).grown zG25 (zK24).size (fun j hj => (zO24.lt j hj).1)
            have zq25 : zw25.heap[zad24]? = some (.cells #[.int .i64 x] 3) := by rw [zG25.block zad24 (lt_of zm24) (fun h => zhn24 h.symm)]; exact zm24
            have zhn25 : zv25.ownBlock ≠ some zad24 := by
              rcases zhl25 with h | h
              · rw [h]; exact zhn24
              · rw [h]; intro h2; have := lt_of zm24; simp at h2; omega
            rw [Nat.zero_add, List.nil_append] at zO25
            clear zG25 zhl25
            refine hK.out _ _ ?_ (fun hHeld2 => ?_)
            · trivial
            clear hK K hHeld
            have hHeld := hHeld2
            clear hHeld2
            refine wpAnyH_ready (rs := [7]) (by kernel_rfl) (by simp) ?_
            refine AllReadyH.cons rfl (fun K hK => ?_) (AllReadyH.nil)
            rw [if_pos (by kernel_rfl)]
            refine wp_append_at _ _ 24 rfl w.heap.size 3 i0 (.int .i64 0) 1 8 Try.underlying24 hi hz0 hz1 hz3 rfl (by omega) _ _ _ rfl zO25 ⟨zad24, 0, none⟩ 1 1 [.int .i64 x] rfl rfl (one_at zq25) (by intro u hu; simp at hu; subst hu; rfl) (by unfold maxLen; omega) (by omega) (by have h3 := (zK25).size; omega) ?_
            intro zv26 zw26 zO26 zG26 zhl26
            have zK26 := (zK25).grown zG26 (zK25).size (fun j hj => (zO25.lt j hj).1)
            clear zG26 zhl26
            refine hK.out _ _ ?_ (fun hHeld2 => ?_)
            · trivial
            clear hK K hHeld
            have hHeld := hHeld2
            clear hHeld2
            refine wpAnyH_ready (rs := [11]) (by kernel_rfl) (by simp) ?_
            refine AllReadyH.cons rfl (fun K hK => ?_) (AllReadyH.nil)
            rw [if_pos (by kernel_rfl)]
            refine wp_append_at _ _ 24 rfl w.heap.size 3 i0 (.int .i64 0) 1 8 Try.underlying24 hi hz0 hz1 hz3 rfl (by omega) _ _ _ rfl zO26 ⟨b, u2, none⟩ (d.length - k) (c - k) (icells (d.drop k)) rfl (by simp [icells]) (fun j v hv => (hsrc2 _ (zK26)) j v hv) (icells_one _) (by unfold maxLen; omega) (by omega) (by have h3 := (zK26).size; omega) ?_
            intro zv27 zw27 zO27 zG27 zhl27
            have zK27 := (zK26).grown zG27 (zK26).size (fun j hj => (zO26.lt j hj).1)
            clear zG27 zhl27
            refine hK.out _ _ ?_ (fun hHeld2 => ?_)
            · trivial
            clear hK K hHeld
            have hHeld := hHeld2
            clear hHeld2
            refine wpAnyH_ready (rs := [12]) (by kernel_rfl) (by simp) ?_
            refine AllReadyH.cons rfl (fun K hK => ?_) (AllReadyH.nil)
            go_simp
            refine hK.out _ _ ?_ (fun hHeld2 => ?_)
            · trivial
            clear hK K hHeld
            have hHeld := hHeld2
            clear hHeld2
            refine wpAnyH_done (by kernel_rfl) ?_ _
            obtain ⟨g, c', hv, hcc, hO⟩ := HEQ.out _ _ zO27
            subst hv
            go_wp2
            go_ret
            exact ⟨g, c', rfl, hcc, hO, zK27⟩
        · go_simp
          have zN29 := new_below vd (.cells #[.int .i64 x] 3)
          have zm29 := heap_new vd (.cells #[.int .i64 x] 3)
          have zK29 := join_below KD zN29
          refine hK.out _ _ ?_ (fun hHeld2 => ?_)
          · trivial
          clear hK K hHeld
          have hHeld := hHeld2
          clear hHeld2
          obtain ⟨zad29, zhad29⟩ : ∃ ad, vd.heap.size = ad := ⟨_, rfl⟩
          rw [zhad29] at zm29
          try rw [zhad29]
          clear zhad29
          generalize (vd.alloc (.cells #[.int .i64 x] 3)) = zw29 at *
          refine wpAnyH_ready (rs := [0]) (by kernel_rfl) (by simp) ?_
          refine AllReadyH.cons rfl (fun K hK => ?_) (AllReadyH.nil)
          go_simp
          have zN30 := new_below zw29 (.cells #[] 3)
          have zm30 := heap_new zw29 (.cells #[] 3)
          have zK30 := join_below zK29 zN30
          have zO30 := own_lower (nil_row zw29 3 1) (show w.heap.size ≤ zw29.heap.size from (zK29).size)
          have zq30 := kept zN30 (lt_of zm29) zm29
          have zhn30 : (Value.slice (some ⟨zw29.heap.size, 0, none⟩) 0 0).ownBlock ≠ some zad29 := by have := lt_of zm29; simp [Value.ownBlock]; omega
          refine hK.out _ _ ?_ (fun hHeld2 => ?_)
          · trivial
          clear hK K hHeld
          have hHeld := hHeld2
          clear hHeld2
          obtain ⟨zav30, zhav30⟩ : ∃ av, (Value.slice (some ⟨zw29.heap.size, 0, none⟩) 0 0) = av := ⟨_, rfl⟩
          rw [zhav30] at zO30 zhn30
          try rw [zhav30]
          clear zhav30
          generalize (zw29.alloc (.cells #[] 3)) = zw30 at *
          refine wpAnyH_ready (rs := [4]) (by kernel_rfl) (by simp) ?_
          refine AllReadyH.cons rfl (fun K hK => ?_) (AllReadyH.nil)
          rw [if_pos (by kernel_rfl)]
          refine wp_append_at _ _ 24 rfl w.heap.size 3 i0 (.int .i64 0) 1 8 Try.underlying24 hi hz0 hz1 hz3 rfl (by omega) _ _ _ rfl zO30 ⟨b, u, none⟩ k c (icells (d.take k)) rfl (by simp [icells]; omega) (fun j v hv => (hsrc1 _ (zK30)) j v hv) (icells_one _) (by unfold maxLen; omega) (by omega) (by have h3 := (zK30).size; omega) ?_
          intro zv31 zw31 zO31 zG31 zhl31
          have zK31 := (zK30).grown zG31 (zK30).size (fun j hj => (zO30.lt j hj).1)
          have zq31 : zw31.heap[zad29]? = some (.cells #[.int .i64 x] 3) := by rw [zG31.block zad29 (lt_of zq30) (fun h => zhn30 h.symm)]; exact zq30
          have zhn31 : zv31.ownBlock ≠ some zad29 := by
            rcases zhl31 with h | h
            · rw [h]; exact zhn30
            · rw [h]; intro h2; have := lt_of zq30; simp at h2; omega
          rw [Nat.zero_add, List.nil_append] at zO31
          clear zG31 zhl31
          refine hK.out _ _ ?_ (fun hHeld2 => ?_)
          · trivial
          clear hK K hHeld
          have hHeld := hHeld2
          clear hHeld2
          refine wpAnyH_ready (rs := [7]) (by kernel_rfl) (by simp) ?_
          refine AllReadyH.cons rfl (fun K hK => ?_) (AllReadyH.nil)
          rw [if_pos (by kernel_rfl)]
          refine wp_append_at _ _ 24 rfl w.heap.size 3 i0 (.int .i64 0) 1 8 Try.underlying24 hi hz0 hz1 hz3 rfl (by omega) _ _ _ rfl zO31 ⟨zad29, 0, none⟩ 1 1 [.int .i64 x] rfl rfl (one_at zq31) (by intro u hu; simp at hu; subst hu; rfl) (by unfold maxLen; omega) (by omega) (by have h3 := (zK31).size; omega) ?_
          intro zv32 zw32 zO32 zG32 zhl32
          have zK32 := (zK31).grown zG32 (zK31).size (fun j hj => (zO31.lt j hj).1)
          clear zG32 zhl32
          refine hK.out _ _ ?_ (fun hHeld2 => ?_)
          · trivial
          clear hK K hHeld
          have hHeld := hHeld2
          clear hHeld2
          refine wpAnyH_ready (rs := [11]) (by kernel_rfl) (by simp) ?_
          refine AllReadyH.cons rfl (fun K hK => ?_) (AllReadyH.nil)
          rw [if_pos (by kernel_rfl)]
          refine wp_append_at _ _ 24 rfl w.heap.size 3 i0 (.int .i64 0) 1 8 Try.underlying24 hi hz0 hz1 hz3 rfl (by omega) _ _ _ rfl zO32 ⟨b, u2, none⟩ (d.length - k) (c - k) (icells (d.drop k)) rfl (by simp [icells]) (fun j v hv => (hsrc2 _ (zK32)) j v hv) (icells_one _) (by unfold maxLen; omega) (by omega) (by have h3 := (zK32).size; omega) ?_
          intro zv33 zw33 zO33 zG33 zhl33
          have zK33 := (zK32).grown zG33 (zK32).size (fun j hj => (zO32.lt j hj).1)
          clear zG33 zhl33
          refine hK.out _ _ ?_ (fun hHeld2 => ?_)
          · trivial
          clear hK K hHeld
          have hHeld := hHeld2
          clear hHeld2
          refine wpAnyH_ready (rs := [12]) (by kernel_rfl) (by simp) ?_
          refine AllReadyH.cons rfl (fun K hK => ?_) (AllReadyH.nil)
          go_simp
          refine hK.out _ _ ?_ (fun hHeld2 => ?_)
          · trivial
          clear hK K hHeld
          have hHeld := hHeld2
          clear hHeld2
          refine wpAnyH_done (by kernel_rfl) ?_ _
          obtain ⟨g, c', hv, hcc, hO⟩ := HEQ.out _ _ zO33
          subst hv
          go_wp2
          go_ret
          exact ⟨g, c', rfl, hcc, hO, zK33⟩
    · have HKP : Hid (posI x d = k) := by
        show _ = _
        obtain rfl : k = d.length := by omega
        rw [← HP.out, pos_end]
        omega
      clear HP
      go_wp2
      have hkc : k ≤ c := by omega
      have hkz : (0 : Int) ≤ (k : Int) := by omega
      have hkn2 : (k : Int) ≤ (d.length : Int) := by omega
      have hkc2 : (k : Int) ≤ (c : Int) := by omega
      have hnc : (d.length : Int) ≤ (c : Int) := by omega
      have hsrc1 : ∀ W, Below w.heap.size w W → _ := fun W l => ints_take k (I.on l)
      obtain ⟨u2, hu2a, hu2b⟩ : ∃ u2, (c = k → u2 = u) ∧ (¬ c = k → u2 = u + k) := ⟨if c = k then u else u + k, fun h => if_pos h, fun h => if_neg h⟩
      have hsrc2 : ∀ W, Below w.heap.size w W → _ := fun W l => ints_rest (n := c) hc hk hu2b (I.on l)
      have HEQ : Hid (∀ (v : Value) (W : World), W.ownsRow w.heap.size 3 1 v (k + 1 + (d.length - k)) (icells (d.take k) ++ [.int .i64 x] ++ icells (d.drop k)) → ∃ g c', v = .slice (some ⟨g, 0, none⟩) (insI x d).length c' ∧ (insI x d).length ≤ c' ∧ W.ownsRow w.heap.size 3 1 (.slice (some ⟨g, 0, none⟩) (insI x d).length c') (insI x d).length (icells (insI x d))) := by
        intro v W O
        have e1 : k + 1 + (d.length - k) = (insI x d).length := by rw [ins_len]; omega
        have e2 : icells (d.take k) ++ [.int .i64 x] ++ icells (d.drop k) = icells (insI x d) := by rw [ins_is, HKP.out]; simp [icells]
        rw [e1, e2] at O
        have O2 := O
        obtain ⟨h1, ⟨rfl, h0⟩ | ⟨g, cap, cur, rfl, hg, hh, hnc, hr⟩⟩ := O
        · rw [ins_len] at h0; omega
        · exact ⟨g, cap, rfl, hnc, O2⟩
      refine wp_region_held_drew (S := (fun _ => True)) (by kernel_rfl) ?_ (fun hHeld => ?_)
      · trivial
      refine wpAnyH_take (i := 1) (v := .slice (some ⟨b, u, none⟩) d.length c) rfl (by kernel_rfl) (by kernel_rfl) (by kernel_rfl) (fun _ _ _ h => h) (Or.inl ⟨by kernel_rfl, fun w hSw => by first | (go_simp; done) | (dsimp only at hSw; have s0 := hSw; go_simp; done) | rfl⟩) (by assumption) ?_
      simp only [Act.put, List.getElem_toArray, List.getElem_cons_succ, List.getElem_cons_zero, List.setIfInBounds_toArray, List.set_cons_succ, List.set_cons_zero]
      refine wpAnyH_take (i := 2) (v := .int .i64 k) rfl (by kernel_rfl) (by kernel_rfl) (by kernel_rfl) (fun _ _ _ h => h) (Or.inl ⟨by kernel_rfl, fun w hSw => by first | (go_simp; done) | (dsimp only at hSw; have s0 := hSw; go_simp; done) | rfl⟩) (by assumption) ?_
      simp only [Act.put, List.getElem_toArray, List.getElem_cons_succ, List.getElem_cons_zero, List.setIfInBounds_toArray, List.set_cons_succ, List.set_cons_zero]
      refine wpAnyH_take (i := 3) (v := .slice (some ⟨b, u, none⟩) k c) rfl (by kernel_rfl) (by kernel_rfl) (by kernel_rfl) (fun _ _ _ h => h) (Or.inl ⟨by kernel_rfl, fun w hSw => by first | (go_simp; done) | (dsimp only at hSw; have s0 := hSw; go_simp; done) | rfl⟩) (by assumption) ?_
      simp only [Act.put, List.getElem_toArray, List.getElem_cons_succ, List.getElem_cons_zero, List.setIfInBounds_toArray, List.set_cons_succ, List.set_cons_zero]
      refine wpAnyH_take (i := 5) (v := .int .i64 x) rfl (by kernel_rfl) (by kernel_rfl) (by kernel_rfl) (fun _ _ _ h => h) (Or.inl ⟨by kernel_rfl, fun w hSw => by first | (go_simp; done) | (dsimp only at hSw; have s0 := hSw; go_simp; done) | rfl⟩) (by assumption) ?_
      simp only [Act.put, List.getElem_toArray, List.getElem_cons_succ, List.getElem_cons_zero, List.setIfInBounds_toArray, List.set_cons_succ, List.set_cons_zero]
      refine wpAnyH_take (i := 8) (v := .slice (some ⟨b, u, none⟩) d.length c) rfl (by kernel_rfl) (by kernel_rfl) (by kernel_rfl) (fun _ _ _ h => h) (Or.inl ⟨by kernel_rfl, fun w hSw => by first | (go_simp; done) | (dsimp only at hSw; have s0 := hSw; go_simp; done) | rfl⟩) (by assumption) ?_
      simp only [Act.put, List.getElem_toArray, List.getElem_cons_succ, List.getElem_cons_zero, List.setIfInBounds_toArray, List.set_cons_succ, List.set_cons_zero]
      refine wpAnyH_take (i := 9) (v := .int .i64 k) rfl (by kernel_rfl) (by kernel_rfl) (by kernel_rfl) (fun _ _ _ h => h) (Or.inl ⟨by kernel_rfl, fun w hSw => by first | (go_simp; done) | (dsimp only at hSw; have s0 := hSw; go_simp; done) | rfl⟩) (by assumption) ?_
      simp only [Act.put, List.getElem_toArray, List.getElem_cons_succ, List.getElem_cons_zero, List.setIfInBounds_toArray, List.set_cons_succ, List.set_cons_zero]
      refine wpAnyH_take (i := 10) (v := .slice (some ⟨b, u2, none⟩) (d.length - k) (c - k)) rfl (by kernel_rfl) (by kernel_rfl) (by kernel_rfl) (fun _ _ _ h => h) (Or.inl ⟨by kernel_rfl, fun w hSw => by (by_cases hxk : c = k; (· (rw [hu2a hxk]; go_simp; done)); (· (rw [hu2b hxk]; go_simp; done)))⟩) (by assumption) ?_
      simp only [Act.put, List.getElem_toArray, List.getElem_cons_succ, List.getElem_cons_zero, List.setIfInBounds_toArray, List.set_cons_succ, List.set_cons_zero]
      have KD := (Below.refl w.heap.size w).drew
      generalize w.drew = vd at *
      refine wpAnyH_ready (rs := [0, 6]) (by kernel_rfl) (by simp) ?_
      refine AllReadyH.cons rfl (fun K hK => ?_) (AllReadyH.cons rfl (fun K hK => ?_) (AllReadyH.nil))
      · go_simp
        have zN18 := new_below vd (.cells #[] 3)
        have zm18 := heap_new vd (.cells #[] 3)
        have zK18 := join_below KD zN18
        have zO18 := own_lower (nil_row vd 3 1) (show w.heap.size ≤ vd.heap.size from (KD).size)
        refine hK.out _ _ ?_ (fun hHeld2 => ?_)
        · trivial
        clear hK K hHeld
        have hHeld := hHeld2
        clear hHeld2
        obtain ⟨zav18, zhav18⟩ : ∃ av, (Value.slice (some ⟨vd.heap.size, 0, none⟩) 0 0) = av := ⟨_, rfl⟩
        rw [zhav18] at zO18
        try rw [zhav18]
        clear zhav18
        generalize (vd.alloc (.cells #[] 3)) = zw18 at *
        refine wpAnyH_ready (rs := [4, 6]) (by kernel_rfl) (by simp) ?_
        refine AllReadyH.cons rfl (fun K hK => ?_) (AllReadyH.cons rfl (fun K hK => ?_) (AllReadyH.nil))
        · rw [if_pos (by kernel_rfl)]
          refine wp_append_at _ _ 24 rfl w.heap.size 3 i0 (.int .i64 0) 1 8 Try.underlying24 hi hz0 hz1 hz3 rfl (by omega) _ _ _ rfl zO18 ⟨b, u, none⟩ k c (icells (d.take k)) rfl (by simp [icells]; omega) (fun j v hv => (hsrc1 _ (zK18)) j v hv) (icells_one _) (by unfold maxLen; omega) (by omega) (by have h3 := (zK18).size; omega) ?_
          intro zv19 zw19 zO19 zG19 zhl19
          have zK19 := (zK18).grown zG19 (zK18).size (fun j hj => (zO18.lt j hj).1)
          rw [Nat.zero_add, List.nil_append] at zO19
          clear zG19 zhl19
          refine hK.out _ _ ?_ (fun hHeld2 => ?_)
          · trivial
          clear hK K hHeld
          have hHeld := hHeld2
          clear hHeld2
          refine wpAnyH_ready (rs := [6]) (by kernel_rfl) (by simp) ?_
          refine AllReadyH.cons rfl (fun K hK => ?_) (AllReadyH.nil)
          go_simp
          have zN20 := new_below zw19 (.cells #[.int .i64 x] 3)
          have zm20 := heap_new zw19 (.cells #[.int .i64 x] 3)
          have zK20 := join_below zK19 zN20
          have zO20 := own_below zO19 zN20 (Nat.le_refl _)
          have zhn20 : (zv19).ownBlock ≠ some zw19.heap.size := fun h => by have := (zO19.lt _ h).2; omega
          refine hK.out _ _ ?_ (fun hHeld2 => ?_)
          · trivial
          clear hK K hHeld
          have hHeld := hHeld2
          clear hHeld2
          obtain ⟨zad20, zhad20⟩ : ∃ ad, zw19.heap.size = ad := ⟨_, rfl⟩
          rw [zhad20] at zm20 zhn20
          try rw [zhad20]
          clear zhad20
          generalize (zw19.alloc (.cells #[.int .i64 x] 3)) = zw20 at *
          refine wpAnyH_ready (rs := [7]) (by kernel_rfl) (by simp) ?_
          refine AllReadyH.cons rfl (fun K hK => ?_) (AllReadyH.nil)
          rw [if_pos (by kernel_rfl)]
          refine wp_append_at _ _ 24 rfl w.heap.size 3 i0 (.int .i64 0) 1 8 Try.underlying24 hi hz0 hz1 hz3 rfl (by omega) _ _ _ rfl zO20 ⟨zad20, 0, none⟩ 1 1 [.int .i64 x] rfl rfl (one_at zm20) (by intro u hu; simp at hu; subst hu; rfl) (by unfold maxLen; omega) (by omega) (by have h3 := (zK20).size; omega) ?_
          intro zv21 zw21 zO21 zG21 zhl21
          have zK21 := (zK20).grown zG21 (zK20).size (fun j hj => (zO20.lt j hj).1)
          clear zG21 zhl21
          refine hK.out _ _ ?_ (fun hHeld2 => ?_)
          · trivial
          clear hK K hHeld
          have hHeld := hHeld2
          clear hHeld2
          refine wpAnyH_ready (rs := [11]) (by kernel_rfl) (by simp) ?_
          refine AllReadyH.cons rfl (fun K hK => ?_) (AllReadyH.nil)
          rw [if_pos (by kernel_rfl)]
          refine wp_append_at _ _ 24 rfl w.heap.size 3 i0 (.int .i64 0) 1 8 Try.underlying24 hi hz0 hz1 hz3 rfl (by omega) _ _ _ rfl zO21 ⟨b, u2, none⟩ (d.length - k) (c - k) (icells (d.drop k)) rfl (by simp [icells]) (fun j v hv => (hsrc2 _ (zK21)) j v hv) (icells_one _) (by unfold maxLen; omega) (by omega) (by have h3 := (zK21).size; omega) ?_
          intro zv22 zw22 zO22 zG22 zhl22
          have zK22 := (zK21).grown zG22 (zK21).size (fun j hj => (zO21.lt j hj).1)
          clear zG22 zhl22
          refine hK.out _ _ ?_ (fun hHeld2 => ?_)
          · trivial
          clear hK K hHeld
          have hHeld := hHeld2
          clear hHeld2
          refine wpAnyH_ready (rs := [12]) (by kernel_rfl) (by simp) ?_
          refine AllReadyH.cons rfl (fun K hK => ?_) (AllReadyH.nil)
          go_simp
          refine hK.out _ _ ?_ (fun hHeld2 => ?_)
          · trivial
          clear hK K hHeld
          have hHeld := hHeld2
          clear hHeld2
          refine wpAnyH_done (by kernel_rfl) ?_ _
          obtain ⟨g, c', hv, hcc, hO⟩ := HEQ.out _ _ zO22
          subst hv
          go_wp2
          go_ret
          exact ⟨g, c', rfl, hcc, hO, zK22⟩
        · go_simp
          have zN24 := new_below zw18 (.cells #[.int .i64 x] 3)
          have zm24 := heap_new zw18 (.cells #[.int .i64 x] 3)
          have zK24 := join_below zK18 zN24
          have zO24 := own_below zO18 zN24 (Nat.le_refl _)
          have zhn24 : (zav18).ownBlock ≠ some zw18.heap.size := fun h => by have := (zO18.lt _ h).2; omega
          refine hK.out _ _ ?_ (fun hHeld2 => ?_)
          · trivial
          clear hK K hHeld
          have hHeld := hHeld2
          clear hHeld2
          obtain ⟨zad24, zhad24⟩ : ∃ ad, zw18.heap.size = ad := ⟨_, rfl⟩
          rw [zhad24] at zm24 zhn24
          try rw [zhad24]
          clear zhad24
          generalize (zw18.alloc (.cells #[.int .i64 x] 3)) = zw24 at *
          refine wpAnyH_ready (rs := [4]) (by kernel_rfl) (by simp) ?_
          refine AllReadyH.cons rfl (fun K hK => ?_) (AllReadyH.nil)
          rw [if_pos (by kernel_rfl)]
          refine wp_append_at _ _ 24 rfl w.heap.size 3 i0 (.int .i64 0) 1 8 Try.underlying24 hi hz0 hz1 hz3 rfl (by omega) _ _ _ rfl zO24 ⟨b, u, none⟩ k c (icells (d.take k)) rfl (by simp [icells]; omega) (fun j v hv => (hsrc1 _ (zK24)) j v hv) (icells_one _) (by unfold maxLen; omega) (by omega) (by have h3 := (zK24).size; omega) ?_
          intro zv25 zw25 zO25 zG25 zhl25
          have zK25 := (zK24).grown zG25 (zK24).size (fun j hj => (zO24.lt j hj).1)
          have zq25 : zw25.heap[zad24]? = some (.cells #[.int .i64 x] 3) := by rw [zG25.block zad24 (lt_of zm24) (fun h => zhn24 h.symm)]; exact zm24
          have zhn25 : zv25.ownBlock ≠ some zad24 := by
            rcases zhl25 with h | h
            · rw [h]; exact zhn24
            · rw [h]; intro h2; have := lt_of zm24; simp at h2; omega
          rw [Nat.zero_add, List.nil_append] at zO25
          clear zG25 zhl25
          refine hK.out _ _ ?_ (fun hHeld2 => ?_)
          · trivial
          clear hK K hHeld
          have hHeld := hHeld2
          clear hHeld2
          refine wpAnyH_ready (rs := [7]) (by kernel_rfl) (by simp) ?_
          refine AllReadyH.cons rfl (fun K hK => ?_) (AllReadyH.nil)
          rw [if_pos (by kernel_rfl)]
          refine wp_append_at _ _ 24 rfl w.heap.size 3 i0 (.int .i64 0) 1 8 Try.underlying24 hi hz0 hz1 hz3 rfl (by omega) _ _ _ rfl zO25 ⟨zad24, 0, none⟩ 1 1 [.int .i64 x] rfl rfl (one_at zq25) (by intro u hu; simp at hu; subst hu; rfl) (by unfold maxLen; omega) (by omega) (by have h3 := (zK25).size; omega) ?_
          intro zv26 zw26 zO26 zG26 zhl26
          have zK26 := (zK25).grown zG26 (zK25).size (fun j hj => (zO25.lt j hj).1)
          clear zG26 zhl26
          refine hK.out _ _ ?_ (fun hHeld2 => ?_)
          · trivial
          clear hK K hHeld
          have hHeld := hHeld2
          clear hHeld2
          refine wpAnyH_ready (rs := [11]) (by kernel_rfl) (by simp) ?_
          refine AllReadyH.cons rfl (fun K hK => ?_) (AllReadyH.nil)
          rw [if_pos (by kernel_rfl)]
          refine wp_append_at _ _ 24 rfl w.heap.size 3 i0 (.int .i64 0) 1 8 Try.underlying24 hi hz0 hz1 hz3 rfl (by omega) _ _ _ rfl zO26 ⟨b, u2, none⟩ (d.length - k) (c - k) (icells (d.drop k)) rfl (by simp [icells]) (fun j v hv => (hsrc2 _ (zK26)) j v hv) (icells_one _) (by unfold maxLen; omega) (by omega) (by have h3 := (zK26).size; omega) ?_
          intro zv27 zw27 zO27 zG27 zhl27
          have zK27 := (zK26).grown zG27 (zK26).size (fun j hj => (zO26.lt j hj).1)
          clear zG27 zhl27
          refine hK.out _ _ ?_ (fun hHeld2 => ?_)
          · trivial
          clear hK K hHeld
          have hHeld := hHeld2
          clear hHeld2
          refine wpAnyH_ready (rs := [12]) (by kernel_rfl) (by simp) ?_
          refine AllReadyH.cons rfl (fun K hK => ?_) (AllReadyH.nil)
          go_simp
          refine hK.out _ _ ?_ (fun hHeld2 => ?_)
          · trivial
          clear hK K hHeld
          have hHeld := hHeld2
          clear hHeld2
          refine wpAnyH_done (by kernel_rfl) ?_ _
          obtain ⟨g, c', hv, hcc, hO⟩ := HEQ.out _ _ zO27
          subst hv
          go_wp2
          go_ret
          exact ⟨g, c', rfl, hcc, hO, zK27⟩
      · go_simp
        have zN29 := new_below vd (.cells #[.int .i64 x] 3)
        have zm29 := heap_new vd (.cells #[.int .i64 x] 3)
        have zK29 := join_below KD zN29
        refine hK.out _ _ ?_ (fun hHeld2 => ?_)
        · trivial
        clear hK K hHeld
        have hHeld := hHeld2
        clear hHeld2
        obtain ⟨zad29, zhad29⟩ : ∃ ad, vd.heap.size = ad := ⟨_, rfl⟩
        rw [zhad29] at zm29
        try rw [zhad29]
        clear zhad29
        generalize (vd.alloc (.cells #[.int .i64 x] 3)) = zw29 at *
        refine wpAnyH_ready (rs := [0]) (by kernel_rfl) (by simp) ?_
        refine AllReadyH.cons rfl (fun K hK => ?_) (AllReadyH.nil)
        go_simp
        have zN30 := new_below zw29 (.cells #[] 3)
        have zm30 := heap_new zw29 (.cells #[] 3)
        have zK30 := join_below zK29 zN30
        have zO30 := own_lower (nil_row zw29 3 1) (show w.heap.size ≤ zw29.heap.size from (zK29).size)
        have zq30 := kept zN30 (lt_of zm29) zm29
        have zhn30 : (Value.slice (some ⟨zw29.heap.size, 0, none⟩) 0 0).ownBlock ≠ some zad29 := by have := lt_of zm29; simp [Value.ownBlock]; omega
        refine hK.out _ _ ?_ (fun hHeld2 => ?_)
        · trivial
        clear hK K hHeld
        have hHeld := hHeld2
        clear hHeld2
        obtain ⟨zav30, zhav30⟩ : ∃ av, (Value.slice (some ⟨zw29.heap.size, 0, none⟩) 0 0) = av := ⟨_, rfl⟩
        rw [zhav30] at zO30 zhn30
        try rw [zhav30]
        clear zhav30
        generalize (zw29.alloc (.cells #[] 3)) = zw30 at *
        refine wpAnyH_ready (rs := [4]) (by kernel_rfl) (by simp) ?_
        refine AllReadyH.cons rfl (fun K hK => ?_) (AllReadyH.nil)
        rw [if_pos (by kernel_rfl)]
        refine wp_append_at _ _ 24 rfl w.heap.size 3 i0 (.int .i64 0) 1 8 Try.underlying24 hi hz0 hz1 hz3 rfl (by omega) _ _ _ rfl zO30 ⟨b, u, none⟩ k c (icells (d.take k)) rfl (by simp [icells]; omega) (fun j v hv => (hsrc1 _ (zK30)) j v hv) (icells_one _) (by unfold maxLen; omega) (by omega) (by have h3 := (zK30).size; omega) ?_
        intro zv31 zw31 zO31 zG31 zhl31
        have zK31 := (zK30).grown zG31 (zK30).size (fun j hj => (zO30.lt j hj).1)
        have zq31 : zw31.heap[zad29]? = some (.cells #[.int .i64 x] 3) := by rw [zG31.block zad29 (lt_of zq30) (fun h => zhn30 h.symm)]; exact zq30
        have zhn31 : zv31.ownBlock ≠ some zad29 := by
          rcases zhl31 with h | h
          · rw [h]; exact zhn30
          · rw [h]; intro h2; have := lt_of zq30; simp at h2; omega
        rw [Nat.zero_add, List.nil_append] at zO31
        clear zG31 zhl31
        refine hK.out _ _ ?_ (fun hHeld2 => ?_)
        · trivial
        clear hK K hHeld
        have hHeld := hHeld2
        clear hHeld2
        refine wpAnyH_ready (rs := [7]) (by kernel_rfl) (by simp) ?_
        refine AllReadyH.cons rfl (fun K hK => ?_) (AllReadyH.nil)
        rw [if_pos (by kernel_rfl)]
        refine wp_append_at _ _ 24 rfl w.heap.size 3 i0 (.int .i64 0) 1 8 Try.underlying24 hi hz0 hz1 hz3 rfl (by omega) _ _ _ rfl zO31 ⟨zad29, 0, none⟩ 1 1 [.int .i64 x] rfl rfl (one_at zq31) (by intro u hu; simp at hu; subst hu; rfl) (by unfold maxLen; omega) (by omega) (by have h3 := (zK31).size; omega) ?_
        intro zv32 zw32 zO32 zG32 zhl32
        have zK32 := (zK31).grown zG32 (zK31).size (fun j hj => (zO31.lt j hj).1)
        clear zG32 zhl32
        refine hK.out _ _ ?_ (fun hHeld2 => ?_)
        · trivial
        clear hK K hHeld
        have hHeld := hHeld2
        clear hHeld2
        refine wpAnyH_ready (rs := [11]) (by kernel_rfl) (by simp) ?_
        refine AllReadyH.cons rfl (fun K hK => ?_) (AllReadyH.nil)
        rw [if_pos (by kernel_rfl)]
        refine wp_append_at _ _ 24 rfl w.heap.size 3 i0 (.int .i64 0) 1 8 Try.underlying24 hi hz0 hz1 hz3 rfl (by omega) _ _ _ rfl zO32 ⟨b, u2, none⟩ (d.length - k) (c - k) (icells (d.drop k)) rfl (by simp [icells]) (fun j v hv => (hsrc2 _ (zK32)) j v hv) (icells_one _) (by unfold maxLen; omega) (by omega) (by have h3 := (zK32).size; omega) ?_
        intro zv33 zw33 zO33 zG33 zhl33
        have zK33 := (zK32).grown zG33 (zK32).size (fun j hj => (zO32.lt j hj).1)
        clear zG33 zhl33
        refine hK.out _ _ ?_ (fun hHeld2 => ?_)
        · trivial
        clear hK K hHeld
        have hHeld := hHeld2
        clear hHeld2
        refine wpAnyH_ready (rs := [12]) (by kernel_rfl) (by simp) ?_
        refine AllReadyH.cons rfl (fun K hK => ?_) (AllReadyH.nil)
        go_simp
        refine hK.out _ _ ?_ (fun hHeld2 => ?_)
        · trivial
        clear hK K hHeld
        have hHeld := hHeld2
        clear hHeld2
        refine wpAnyH_done (by kernel_rfl) ?_ _
        obtain ⟨g, c', hv, hcc, hO⟩ := HEQ.out _ _ zO33
        subst hv
        go_wp2
        go_ret
        exact ⟨g, c', rfl, hcc, hO, zK33⟩

end Hn
end Go.Proofs.Ytbmfhdlbbaabgaa

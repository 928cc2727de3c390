/- Contracts of WayCost, of the program and of its model. -/
import Derived.Test.YtmhongcbgokiladTfLeast
namespace Go.Proofs.Ytmhongcbgokilad
namespace Tf
open Go.ChangeShapes Go.WideShapes Go.ChangeAt Go.RowKit
open Pk (new_below join_below cell_at heap_new frozen_at lt_of kept heap_old Drawn)
set_option linter.unusedSimpArgs false
set_option linter.unusedVariables false

theorem way_no {l : List Ed} {z : List Int} (h : tarB l = false ∨ z.length = 0) : wayC l z = -1 := by
  unfold wayC
  rw [if_neg]
  rintro ⟨h1, h2⟩
  rcases h with h | h
  · rw [h] at h1; cases h1
  · exact h2 (List.eq_nil_of_length_eq_zero h)

theorem way_yes {l : List Ed} {z : List Int} (h : tarB l = true) (hz : 0 < z.length) : wayC l z = costF l 0 z := by
  unfold wayC
  rw [if_pos ⟨h, by intro e; rw [e] at hz; simp at hz⟩]

set_option maxHeartbeats 2000000 in
set_option maxRecDepth 100000 in
theorem implWay_val (a c : Option Addr) (l : List Ed) (z : List Int) (cap cap2 : Nat) (w : World) (hl : l.length ≤ maxLen) (hz : z.length ≤ 1048576) (I : Edges w a l) (J : Ints w c z) :
    Calls Try.prog 32 #[.slice a l.length cap, .slice c z.length cap2] w fun e w' => e = .returned (.int .i64 (wayC l z)) ∧ Below w.heap.size w w' := by
  have HT : Hid (∀ w, _ → _) := fun w (h : Edges w a l) => implTariff_val a l cap w hl h
  by_cases ht : tarB l = true
  · have HL : Hid (l.length ≤ 200 ∧ ∀ e ∈ l, edB e = true) := tar_is ht
    have HLE : Hid (∀ x y w, _ → _) := fun x y w (h : Edges w a l) => least_val a l cap x y w HL.out.1 HL.out.2 h
    have HLO : Hid (∀ x y, _) := fun x y => leV_lo l x y HL.out.2
    have HW : Hid (0 < z.length → wayC l z = costF l 0 z) := fun h => way_yes ht h
    have HN : Hid (z.length = 0 → wayC l z = -1) := fun h => way_no (Or.inr h)
    rw [ht] at HT
    clear ht HL hl
    by_cases h0 : z.length = 0
    · have e0 : ((z.length : Int) == 0) = true := by simp [h0]
      go_enter Try.func32, Try.ntmps32
      go_wp2_with fail
      refine (HT.out _ I).mono ?_
      rintro e w1 ⟨rfl, L1⟩
      go_wp2
      go_ret
      exact ⟨by rw [HN.out h0] <;> rfl, L1⟩
    · have e0 : ((z.length : Int) == 0) = false := beq_eq_false_iff_ne.2 (by omega)
      have hp : 0 < z.length := by omega
      have HV : Hid (_) := HW.out hp
      go_enter Try.func32, Try.ntmps32
      go_wp2_with fail
      refine (HT.out _ I).mono ?_
      rintro e w1 ⟨rfl, L1⟩
      obtain ⟨n, hn⟩ : ∃ n, z.length = n + 1 := ⟨z.length - 1, by omega⟩
      have I1 := I.on L1
      have J1 := J.on L1
      clear HW HN HT h0 hp
      have HNN : Hid (z.length = n + 1) := hn
      have hx : (z.length : Int) - 1 = (n : Int) := by omega
      have hnz : n ≤ 1048576 := by omega
      clear hn
      go_wp2
      go_loopw [5, 19] (fun t i wr => ∃ (k : Nat) (s : Int), k ≤ n ∧ i = .int .i64 k ∧ t = .int .i64 s ∧ Below w.heap.size w wr ∧ Below w1.heap.size w1 wr ∧ 0 ≤ s ∧ s ≤ 1000000 * k ∧ Hid (costF l 0 z = costF l s (z.drop k))) (fun _ i _ => n - (intOf i).toNat)
      case atStart => exact ⟨0, 0, by omega, rfl, rfl, L1, Below.refl _ _, by omega, by omega, rfl⟩
      case round =>
        obtain ⟨k, s, hk, rfl, rfl, L, LW, hs0, hs1, H⟩ := hrel
        by_cases hkn : k < n
        · have hk0 : k < z.length := by rw [HNN.out]; omega
          have hk1 : k + 1 < z.length := by rw [HNN.out]; omega
          obtain ⟨b, o, rfl, hlt, c0⟩ := (J1.on LW).at k hk0
          obtain ⟨b', o', he, -, c1⟩ := (J1.on LW).at (k + 1) hk1
          simp only [Option.some.injEq, Addr.mk.injEq, and_true] at he
          obtain ⟨rfl, rfl⟩ := he
          have HC : Hid (∀ w, _ → _) := fun w h => HLE.out z[k] z[k + 1] w h
          have HO : Hid (_) := HLO.out z[k] z[k + 1]
          have HG : Hid (_ → _) := costF_go l s z k hk1
          have HQ : Hid (_ → _) := costF_no l s z k hk1
          have IK := I1.on LW
          generalize z[k] = x at *
          generalize z[k + 1] = y at *
          generalize leV l x y = V at *
          obtain ⟨q, hq⟩ : ∃ q, q = k + 1 := ⟨_, rfl⟩
          rw [← hq] at c1 HG
          have i3 : q < z.length := by rw [hq]; exact hk1
          have i4 : (k : Int) + 1 = (q : Int) := by omega
          have i5 : IntKind.i64.wrap (q : Int) = (q : Int) := by rw [IntKind.wrap_i64]; omega
          have HQK : Hid (q = k + 1) := hq
          clear hq
          have hv0 := HO.out.1
          have hv1 := HO.out.2
          by_cases hv : V = -1
          · have HE : Hid (_) := H.out.trans (HQ.out hv)
            subst hv
            clear HG HQ H HLO HLE hs1
            go_wp2
            refine wp_region_any (by kernel_rfl) ?_
            try (change wpAny _ _ _ _ _ _ _ (World.drew _))
            refine wpAny_take (i := 0) (v := .slice a l.length cap) rfl (by kernel_rfl) (by kernel_rfl) (by kernel_rfl) (fun _ _ _ h => h) (Or.inl ⟨by kernel_rfl, fun w => by first | (go_simp; done) | rfl⟩) ?_
            simp only [Act.put, List.getElem_toArray, List.getElem_cons_succ, List.getElem_cons_zero, List.setIfInBounds_toArray, List.set_cons_succ, List.set_cons_zero]
            refine wpAny_take (i := 1) (v := .slice (some ⟨b, o, none⟩) z.length cap2) rfl (by kernel_rfl) (by kernel_rfl) (by kernel_rfl) (fun _ _ _ h => h) (Or.inl ⟨by kernel_rfl, fun w => by first | (go_simp; done) | rfl⟩) ?_
            simp only [Act.put, List.getElem_toArray, List.getElem_cons_succ, List.getElem_cons_zero, List.setIfInBounds_toArray, List.set_cons_succ, List.set_cons_zero]
            refine wpAny_take (i := 2) (v := .int .i64 k) rfl (by kernel_rfl) (by kernel_rfl) (by kernel_rfl) (fun _ _ _ h => h) (Or.inl ⟨by kernel_rfl, fun w => by first | (go_simp; done) | rfl⟩) ?_
            simp only [Act.put, List.getElem_toArray, List.getElem_cons_succ, List.getElem_cons_zero, List.setIfInBounds_toArray, List.set_cons_succ, List.set_cons_zero]
            refine wpAny_take (i := 3) (v := .pointer (some ⟨b, o + k, none⟩)) rfl (by kernel_rfl) (by kernel_rfl) (by kernel_rfl) (fun _ _ _ h => h) (Or.inl ⟨by kernel_rfl, fun w => by first | (go_simp; done) | rfl⟩) ?_
            simp only [Act.put, List.getElem_toArray, List.getElem_cons_succ, List.getElem_cons_zero, List.setIfInBounds_toArray, List.set_cons_succ, List.set_cons_zero]
            refine wpAny_take (i := 5) (v := .slice (some ⟨b, o, none⟩) z.length cap2) rfl (by kernel_rfl) (by kernel_rfl) (by kernel_rfl) (fun _ _ _ h => h) (Or.inl ⟨by kernel_rfl, fun w => by first | (go_simp; done) | rfl⟩) ?_
            simp only [Act.put, List.getElem_toArray, List.getElem_cons_succ, List.getElem_cons_zero, List.setIfInBounds_toArray, List.set_cons_succ, List.set_cons_zero]
            refine wpAny_take (i := 6) (v := .int .i64 k) rfl (by kernel_rfl) (by kernel_rfl) (by kernel_rfl) (fun _ _ _ h => h) (Or.inl ⟨by kernel_rfl, fun w => by first | (go_simp; done) | rfl⟩) ?_
            simp only [Act.put, List.getElem_toArray, List.getElem_cons_succ, List.getElem_cons_zero, List.setIfInBounds_toArray, List.set_cons_succ, List.set_cons_zero]
            refine wpAny_take (i := 7) (v := .int .i64 q) rfl (by kernel_rfl) (by kernel_rfl) (by kernel_rfl) (fun _ _ _ h => h) (Or.inl ⟨by kernel_rfl, fun w => by first | (go_simp; done) | rfl⟩) ?_
            simp only [Act.put, List.getElem_toArray, List.getElem_cons_succ, List.getElem_cons_zero, List.setIfInBounds_toArray, List.set_cons_succ, List.set_cons_zero]
            refine wpAny_take (i := 8) (v := .pointer (some ⟨b, o + q, none⟩)) rfl (by kernel_rfl) (by kernel_rfl) (by kernel_rfl) (fun _ _ _ h => h) (Or.inl ⟨by kernel_rfl, fun w => by first | (go_simp; done) | rfl⟩) ?_
            simp only [Act.put, List.getElem_toArray, List.getElem_cons_succ, List.getElem_cons_zero, List.setIfInBounds_toArray, List.set_cons_succ, List.set_cons_zero]
            refine wpAny_ready (rs := [4, 9]) (by kernel_rfl) (by simp) ?_
            refine AllReady.cons rfl (fun K hK => ?_) (AllReady.cons rfl (fun K hK => ?_) (AllReady.nil))
            · go_simp
              refine hK _ _ ?_
              clear hK K
              refine wpAny_ready (rs := [9]) (by kernel_rfl) (by simp) ?_
              refine AllReady.cons rfl (fun K hK => ?_) (AllReady.nil)
              go_simp
              refine hK _ _ ?_
              clear hK K
              refine wpAny_ready (rs := [10]) (by kernel_rfl) (by simp) ?_
              refine AllReady.cons rfl (fun K hK => ?_) AllReady.nil
              go_simp
              go_wp2_with (go_at_call 72; (with_reducible refine (HC.out _ ?_).mono ?_); (first | exact IK | exact IK.on ((Below.refl _ _).drew)); rintro e w3 ⟨rfl, L3⟩)
              refine wpAny_ready (rs := [11]) (by kernel_rfl) (by simp) ?_
              refine AllReady.cons rfl (fun K hK => ?_) AllReady.nil
              go_simp
              refine hK _ _ ?_
              clear hK K
              refine wpAny_done (by kernel_rfl) ?_ _
              go_wp2
              go_ret
              exact ⟨by rw [HV.out, HE.out] <;> rfl, L.trans ((((Below.refl _ _).drew).trans L3).mono L.size)⟩
            · go_simp
              refine hK _ _ ?_
              clear hK K
              refine wpAny_ready (rs := [4]) (by kernel_rfl) (by simp) ?_
              refine AllReady.cons rfl (fun K hK => ?_) (AllReady.nil)
              go_simp
              refine hK _ _ ?_
              clear hK K
              refine wpAny_ready (rs := [10]) (by kernel_rfl) (by simp) ?_
              refine AllReady.cons rfl (fun K hK => ?_) AllReady.nil
              go_simp
              go_wp2_with (go_at_call 72; (with_reducible refine (HC.out _ ?_).mono ?_); (first | exact IK | exact IK.on ((Below.refl _ _).drew)); rintro e w3 ⟨rfl, L3⟩)
              refine wpAny_ready (rs := [11]) (by kernel_rfl) (by simp) ?_
              refine AllReady.cons rfl (fun K hK => ?_) AllReady.nil
              go_simp
              refine hK _ _ ?_
              clear hK K
              refine wpAny_done (by kernel_rfl) ?_ _
              go_wp2
              go_ret
              exact ⟨by rw [HV.out, HE.out] <;> rfl, L.trans ((((Below.refl _ _).drew).trans L3).mono L.size)⟩
          · have HE : Hid (_) := H.out.trans (HG.out hv)
            have e2 : (V == -1) = false := beq_eq_false_iff_ne.2 hv
            have hv3 : 0 ≤ V := by omega
            clear HG HQ H HLO HLE hv HO hv0
            go_wp2
            refine wp_region_any (by kernel_rfl) ?_
            try (change wpAny _ _ _ _ _ _ _ (World.drew _))
            refine wpAny_take (i := 0) (v := .slice a l.length cap) rfl (by kernel_rfl) (by kernel_rfl) (by kernel_rfl) (fun _ _ _ h => h) (Or.inl ⟨by kernel_rfl, fun w => by first | (go_simp; done) | rfl⟩) ?_
            simp only [Act.put, List.getElem_toArray, List.getElem_cons_succ, List.getElem_cons_zero, List.setIfInBounds_toArray, List.set_cons_succ, List.set_cons_zero]
            refine wpAny_take (i := 1) (v := .slice (some ⟨b, o, none⟩) z.length cap2) rfl (by kernel_rfl) (by kernel_rfl) (by kernel_rfl) (fun _ _ _ h => h) (Or.inl ⟨by kernel_rfl, fun w => by first | (go_simp; done) | rfl⟩) ?_
            simp only [Act.put, List.getElem_toArray, List.getElem_cons_succ, List.getElem_cons_zero, List.setIfInBounds_toArray, List.set_cons_succ, List.set_cons_zero]
            refine wpAny_take (i := 2) (v := .int .i64 k) rfl (by kernel_rfl) (by kernel_rfl) (by kernel_rfl) (fun _ _ _ h => h) (Or.inl ⟨by kernel_rfl, fun w => by first | (go_simp; done) | rfl⟩) ?_
            simp only [Act.put, List.getElem_toArray, List.getElem_cons_succ, List.getElem_cons_zero, List.setIfInBounds_toArray, List.set_cons_succ, List.set_cons_zero]
            refine wpAny_take (i := 3) (v := .pointer (some ⟨b, o + k, none⟩)) rfl (by kernel_rfl) (by kernel_rfl) (by kernel_rfl) (fun _ _ _ h => h) (Or.inl ⟨by kernel_rfl, fun w => by first | (go_simp; done) | rfl⟩) ?_
            simp only [Act.put, List.getElem_toArray, List.getElem_cons_succ, List.getElem_cons_zero, List.setIfInBounds_toArray, List.set_cons_succ, List.set_cons_zero]
            refine wpAny_take (i := 5) (v := .slice (some ⟨b, o, none⟩) z.length cap2) rfl (by kernel_rfl) (by kernel_rfl) (by kernel_rfl) (fun _ _ _ h => h) (Or.inl ⟨by kernel_rfl, fun w => by first | (go_simp; done) | rfl⟩) ?_
            simp only [Act.put, List.getElem_toArray, List.getElem_cons_succ, List.getElem_cons_zero, List.setIfInBounds_toArray, List.set_cons_succ, List.set_cons_zero]
            refine wpAny_take (i := 6) (v := .int .i64 k) rfl (by kernel_rfl) (by kernel_rfl) (by kernel_rfl) (fun _ _ _ h => h) (Or.inl ⟨by kernel_rfl, fun w => by first | (go_simp; done) | rfl⟩) ?_
            simp only [Act.put, List.getElem_toArray, List.getElem_cons_succ, List.getElem_cons_zero, List.setIfInBounds_toArray, List.set_cons_succ, List.set_cons_zero]
            refine wpAny_take (i := 7) (v := .int .i64 q) rfl (by kernel_rfl) (by kernel_rfl) (by kernel_rfl) (fun _ _ _ h => h) (Or.inl ⟨by kernel_rfl, fun w => by first | (go_simp; done) | rfl⟩) ?_
            simp only [Act.put, List.getElem_toArray, List.getElem_cons_succ, List.getElem_cons_zero, List.setIfInBounds_toArray, List.set_cons_succ, List.set_cons_zero]
            refine wpAny_take (i := 8) (v := .pointer (some ⟨b, o + q, none⟩)) rfl (by kernel_rfl) (by kernel_rfl) (by kernel_rfl) (fun _ _ _ h => h) (Or.inl ⟨by kernel_rfl, fun w => by first | (go_simp; done) | rfl⟩) ?_
            simp only [Act.put, List.getElem_toArray, List.getElem_cons_succ, List.getElem_cons_zero, List.setIfInBounds_toArray, List.set_cons_succ, List.set_cons_zero]
            refine wpAny_ready (rs := [4, 9]) (by kernel_rfl) (by simp) ?_
            refine AllReady.cons rfl (fun K hK => ?_) (AllReady.cons rfl (fun K hK => ?_) (AllReady.nil))
            · go_simp
              refine hK _ _ ?_
              clear hK K
              refine wpAny_ready (rs := [9]) (by kernel_rfl) (by simp) ?_
              refine AllReady.cons rfl (fun K hK => ?_) (AllReady.nil)
              go_simp
              refine hK _ _ ?_
              clear hK K
              refine wpAny_ready (rs := [10]) (by kernel_rfl) (by simp) ?_
              refine AllReady.cons rfl (fun K hK => ?_) AllReady.nil
              go_simp
              go_wp2_with (go_at_call 72; (with_reducible refine (HC.out _ ?_).mono ?_); (first | exact IK | exact IK.on ((Below.refl _ _).drew)); rintro e w3 ⟨rfl, L3⟩)
              refine wpAny_ready (rs := [11]) (by kernel_rfl) (by simp) ?_
              refine AllReady.cons rfl (fun K hK => ?_) AllReady.nil
              go_simp
              refine hK _ _ ?_
              clear hK K
              refine wpAny_done (by kernel_rfl) ?_ _
              have L4 : Below wr.heap.size wr w3 := ((Below.refl _ _).drew).trans L3
              go_wp2
              go_roundw
              case rel => exact ⟨q, s + V, by have := HQK.out; omega, rfl, rfl, join_below L L4, join_below LW L4, by omega, by have := HQK.out; omega, HE⟩
              case measure => have := HQK.out; simp [intOf]; omega
            · go_simp
              refine hK _ _ ?_
              clear hK K
              refine wpAny_ready (rs := [4]) (by kernel_rfl) (by simp) ?_
              refine AllReady.cons rfl (fun K hK => ?_) (AllReady.nil)
              go_simp
              refine hK _ _ ?_
              clear hK K
              refine wpAny_ready (rs := [10]) (by kernel_rfl) (by simp) ?_
              refine AllReady.cons rfl (fun K hK => ?_) AllReady.nil
              go_simp
              go_wp2_with (go_at_call 72; (with_reducible refine (HC.out _ ?_).mono ?_); (first | exact IK | exact IK.on ((Below.refl _ _).drew)); rintro e w3 ⟨rfl, L3⟩)
              refine wpAny_ready (rs := [11]) (by kernel_rfl) (by simp) ?_
              refine AllReady.cons rfl (fun K hK => ?_) AllReady.nil
              go_simp
              refine hK _ _ ?_
              clear hK K
              refine wpAny_done (by kernel_rfl) ?_ _
              have L4 : Below wr.heap.size wr w3 := ((Below.refl _ _).drew).trans L3
              go_wp2
              go_roundw
              case rel => exact ⟨q, s + V, by have := HQK.out; omega, rfl, rfl, join_below L L4, join_below LW L4, by omega, by have := HQK.out; omega, HE⟩
              case measure => have := HQK.out; simp [intOf]; omega
        · have HE : Hid (costF l 0 z = s) := H.out.trans (costF_stop l s z k (by rw [HNN.out]; omega))
          go_wp2
          go_ret
          exact ⟨by rw [HV.out, HE.out] <;> rfl, L⟩
  · have hf : tarB l = false := by simpa using ht
    have HN : Hid (_) := way_no (z := z) (Or.inl hf)
    rw [hf] at HT
    clear ht hf
    go_enter Try.func32, Try.ntmps32
    go_wp2_with fail
    refine (HT.out _ I).mono ?_
    rintro e w1 ⟨rfl, L1⟩
    go_wp2
    go_ret
    exact ⟨by rw [HN.out] <;> rfl, L1⟩

end Tf
end Go.Proofs.Ytmhongcbgokilad

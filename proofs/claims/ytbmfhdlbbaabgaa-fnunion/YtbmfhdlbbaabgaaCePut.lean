/- l13Put of the model. -/
import Derived.Test.YtbmfhdlbbaabgaaCePutM
import Derived.Deep.RegionHeld3
namespace Go.Proofs.Ytbmfhdlbbaabgaa
namespace Hn
open Go.ChangeShapes Go.WideShapes Go.ChangeAt Go.RowKit Go.Joins
open Pk (new_below join_below cell_at heap_new frozen_at lt_of kept heap_old Drawn info_of Room own_form own_below)
set_option linter.unusedSimpArgs false
set_option linter.unusedVariables false

set_option maxRecDepth 100000 in
set_option maxHeartbeats 16000000 in
theorem put_val (b u : Nat) (l : List Ct) (c : Nat) (x : Ct) (w : World) (hz : l.length ≤ 1048576) (hc : l.length ≤ c) (I : Controls w (some ⟨b, u, none⟩) l) :
    Calls Try.prog 39 #[.slice (some ⟨b, u, none⟩) l.length c, lgV x] w fun e w' => ∃ v, e = .returned v ∧ ((putC l x = l ∧ v = .slice (some ⟨b, u, none⟩) l.length c) ∨ ∃ g c', v = .slice (some ⟨g, 0, none⟩) (putC l x).length c' ∧ (putC l x).length ≤ c' ∧ w'.ownsRow w.heap.size 37 6 (.slice (some ⟨g, 0, none⟩) (putC l x).length c') (putC l x).length (ccells (putC l x))) ∧ Below w.heap.size w w' := by
  obtain ⟨i0, hi, hz0, hz1, hz3⟩ := info_of info_control
  have N0 := new_below w (.cells #[.int .i64 x.dv, .int .i64 x.no, .int .i64 x.tk, .int .i64 x.tr, .int .i64 x.dy, .int .i64 x.sa] 37)
  have m0 := heap_new w (.cells #[.int .i64 x.dv, .int .i64 x.no, .int .i64 x.tk, .int .i64 x.tr, .int .i64 x.dy, .int .i64 x.sa] 37)
  have I0 := I.on N0
  go_enter Try.func39, Try.ntmps39
  go_wp2
  obtain ⟨W0, hW0⟩ : ∃ W0, w.alloc (.cells #[.int .i64 x.dv, .int .i64 x.no, .int .i64 x.tk, .int .i64 x.tr, .int .i64 x.dy, .int .i64 x.sa] 37) = W0 := ⟨_, rfl⟩
  rw [hW0] at N0 m0 I0
  rw [hW0]
  clear hW0 I
  have HX6 : Hid (∀ W, Below W0.heap.size W0 W → W.cell? ⟨w.heap.size, 0, none⟩ = some (.int .i64 x.dv) ∧ W.cell? ⟨w.heap.size, 1, none⟩ = some (.int .i64 x.no) ∧ W.cell? ⟨w.heap.size, 2, none⟩ = some (.int .i64 x.tk) ∧ W.cell? ⟨w.heap.size, 3, none⟩ = some (.int .i64 x.tr) ∧ W.cell? ⟨w.heap.size, 4, none⟩ = some (.int .i64 x.dy) ∧ W.cell? ⟨w.heap.size, 5, none⟩ = some (.int .i64 x.sa)) := fun W q => by
    have m := kept q (lt_of m0) m0
    exact ⟨cell_at m 0, cell_at m 1, cell_at m 2, cell_at m 3, cell_at m 4, cell_at m 5⟩
  go_loopw [5] (fun i wr => ∃ k : Nat, k ≤ l.length ∧ i = .int .i64 k ∧ Below W0.heap.size W0 wr ∧ Hid (posC x (l.drop k) + k = posC x l)) (fun i _ => l.length - (intOf i).toNat)
  case atStart => exact ⟨0, by omega, rfl, Below.refl _ _, rfl⟩
  case round =>
    obtain ⟨k, hk, rfl, LR, HP⟩ := hrel
    by_cases hkn : k < l.length
    · have HXP : Hid (∀ W, Below W0.heap.size W0 W → W.cell? ⟨b, u + k * 6, none⟩ = some (.int .i64 l[k].dv) ∧ W.cell? ⟨b, u + k * 6 + 1, none⟩ = some (.int .i64 l[k].no) ∧ W.cell? ⟨b, u + k * 6 + 2, none⟩ = some (.int .i64 l[k].tk) ∧ W.cell? ⟨b, u + k * 6 + 3, none⟩ = some (.int .i64 l[k].tr) ∧ W.cell? ⟨b, u + k * 6 + 4, none⟩ = some (.int .i64 l[k].dy) ∧ W.cell? ⟨b, u + k * 6 + 5, none⟩ = some (.int .i64 l[k].sa)) := fun W q => by
        obtain ⟨b', u', e', -, h⟩ := (I0.on q).at k hkn
        simp only [Option.some.injEq, Addr.mk.injEq, and_true] at e'
        obtain ⟨rfl, rfl⟩ := e'
        exact h
      have HST : Hid (ltC l[k] x = true → posC x (l.drop (k + 1)) + (k + 1) = posC x l) := fun hx => by
        rw [← HP.out, posC_step hkn hx]
        omega
      have HSP : Hid (ltC l[k] x = false → posC x l = k) := fun hx => by
        rw [← HP.out, posC_stop hkn hx]
        omega
      have HHA0 : Hid (posC x l = k → hasC x l = !ltC x l[k]) := fun hp => hasC_at hp hkn
      have d1 : decide (k < l.length) = true := decide_eq_true hkn
      have hki : (0 : Int) ≤ (k : Int) := by omega
      have hkj : (k : Int) < (l.length : Int) := by omega
      clear HP
      generalize l[k] = p at *
      have HX12 : Hid (∀ W, Below W0.heap.size W0 W → W.cell? ⟨b, u + k * 6, none⟩ = some (.int .i64 p.dv) ∧ W.cell? ⟨b, u + k * 6 + 1, none⟩ = some (.int .i64 p.no) ∧ W.cell? ⟨b, u + k * 6 + 2, none⟩ = some (.int .i64 p.tk) ∧ W.cell? ⟨b, u + k * 6 + 3, none⟩ = some (.int .i64 p.tr) ∧ W.cell? ⟨b, u + k * 6 + 4, none⟩ = some (.int .i64 p.dy) ∧ W.cell? ⟨b, u + k * 6 + 5, none⟩ = some (.int .i64 p.sa) ∧ W.cell? ⟨w.heap.size, 0, none⟩ = some (.int .i64 x.dv) ∧ W.cell? ⟨w.heap.size, 1, none⟩ = some (.int .i64 x.no) ∧ W.cell? ⟨w.heap.size, 2, none⟩ = some (.int .i64 x.tk) ∧ W.cell? ⟨w.heap.size, 3, none⟩ = some (.int .i64 x.tr) ∧ W.cell? ⟨w.heap.size, 4, none⟩ = some (.int .i64 x.dy) ∧ W.cell? ⟨w.heap.size, 5, none⟩ = some (.int .i64 x.sa)) := fun W q => by
        obtain ⟨h0, h1, h2, h3, h4, h5⟩ := HXP.out W q
        exact ⟨h0, h1, h2, h3, h4, h5, HX6.out W q⟩
      have HS : Hid (∀ W, Below wr.heap.size wr W → W.cell? ⟨b, u + k * 6, none⟩ = some (.int .i64 p.dv) ∧ W.cell? ⟨b, u + k * 6 + 1, none⟩ = some (.int .i64 p.no) ∧ W.cell? ⟨b, u + k * 6 + 2, none⟩ = some (.int .i64 p.tk) ∧ W.cell? ⟨b, u + k * 6 + 3, none⟩ = some (.int .i64 p.tr) ∧ W.cell? ⟨b, u + k * 6 + 4, none⟩ = some (.int .i64 p.dy) ∧ W.cell? ⟨b, u + k * 6 + 5, none⟩ = some (.int .i64 p.sa) ∧ W.cell? ⟨w.heap.size, 0, none⟩ = some (.int .i64 x.dv) ∧ W.cell? ⟨w.heap.size, 1, none⟩ = some (.int .i64 x.no) ∧ W.cell? ⟨w.heap.size, 2, none⟩ = some (.int .i64 x.tk) ∧ W.cell? ⟨w.heap.size, 3, none⟩ = some (.int .i64 x.tr) ∧ W.cell? ⟨w.heap.size, 4, none⟩ = some (.int .i64 x.dy) ∧ W.cell? ⟨w.heap.size, 5, none⟩ = some (.int .i64 x.sa)) := fun W q => HX12.out W (LR.trans (q.mono LR.size))
      have HB1 : Hid (∀ W : World, _) := fun W => before_val p x W
      cases hx : ltC p x
      · rw [hx] at HB1
        have HKP : Hid (posC x l = k) := HSP.out hx
        have HHA : Hid (hasC x l = !ltC x p) := HHA0.out HKP.out
        clear hx HSP HST HHA0 HXP
        go_wp2
        refine wp_region_held_drew (S := (fun w' => w'.cell? ⟨b, u + k * 6, none⟩ = some (.int .i64 p.dv) ∧ w'.cell? ⟨b, u + k * 6 + 1, none⟩ = some (.int .i64 p.no) ∧ w'.cell? ⟨b, u + k * 6 + 2, none⟩ = some (.int .i64 p.tk) ∧ w'.cell? ⟨b, u + k * 6 + 3, none⟩ = some (.int .i64 p.tr) ∧ w'.cell? ⟨b, u + k * 6 + 4, none⟩ = some (.int .i64 p.dy) ∧ w'.cell? ⟨b, u + k * 6 + 5, none⟩ = some (.int .i64 p.sa) ∧ w'.cell? ⟨w.heap.size, 0, none⟩ = some (.int .i64 x.dv) ∧ w'.cell? ⟨w.heap.size, 1, none⟩ = some (.int .i64 x.no) ∧ w'.cell? ⟨w.heap.size, 2, none⟩ = some (.int .i64 x.tk) ∧ w'.cell? ⟨w.heap.size, 3, none⟩ = some (.int .i64 x.tr) ∧ w'.cell? ⟨w.heap.size, 4, none⟩ = some (.int .i64 x.dy) ∧ w'.cell? ⟨w.heap.size, 5, none⟩ = some (.int .i64 x.sa))) (by kernel_rfl) ?_ (fun hHeld => ?_)
        · exact HS.out _ (Below.refl _ _).drew
        refine wpAnyH_take (i := 0) (v := .int .i64 k) rfl (by kernel_rfl) (by kernel_rfl) (by kernel_rfl) (fun _ _ _ h => h) (Or.inl ⟨by kernel_rfl, fun w hSw => by first | (go_simp; done) | (dsimp only at hSw; obtain ⟨s0, s1, s2, s3, s4, s5, s6, s7, s8, s9, s10, s11⟩ := hSw; go_simp; done) | rfl⟩) (by assumption) ?_
        simp only [Act.put, List.getElem_toArray, List.getElem_cons_succ, List.getElem_cons_zero, List.setIfInBounds_toArray, List.set_cons_succ, List.set_cons_zero]
        refine wpAnyH_take (i := 1) (v := .slice (some ⟨b, u, none⟩) l.length c) rfl (by kernel_rfl) (by kernel_rfl) (by kernel_rfl) (fun _ _ _ h => h) (Or.inl ⟨by kernel_rfl, fun w hSw => by first | (go_simp; done) | (dsimp only at hSw; obtain ⟨s0, s1, s2, s3, s4, s5, s6, s7, s8, s9, s10, s11⟩ := hSw; go_simp; done) | rfl⟩) (by assumption) ?_
        simp only [Act.put, List.getElem_toArray, List.getElem_cons_succ, List.getElem_cons_zero, List.setIfInBounds_toArray, List.set_cons_succ, List.set_cons_zero]
        refine wpAnyH_take (i := 2) (v := .int .i64 l.length) rfl (by kernel_rfl) (by kernel_rfl) (by kernel_rfl) (fun _ _ _ h => h) (Or.inl ⟨by kernel_rfl, fun w hSw => by first | (go_simp; done) | (dsimp only at hSw; obtain ⟨s0, s1, s2, s3, s4, s5, s6, s7, s8, s9, s10, s11⟩ := hSw; go_simp; done) | rfl⟩) (by assumption) ?_
        simp only [Act.put, List.getElem_toArray, List.getElem_cons_succ, List.getElem_cons_zero, List.setIfInBounds_toArray, List.set_cons_succ, List.set_cons_zero]
        refine wpAnyH_take (i := 3) (v := .bool true) rfl (by kernel_rfl) (by kernel_rfl) (by kernel_rfl) (fun _ _ _ h => h) (Or.inl ⟨by kernel_rfl, fun w hSw => by first | (go_simp; done) | (dsimp only at hSw; obtain ⟨s0, s1, s2, s3, s4, s5, s6, s7, s8, s9, s10, s11⟩ := hSw; go_simp; done) | rfl⟩) (by assumption) ?_
        simp only [Act.put, List.getElem_toArray, List.getElem_cons_succ, List.getElem_cons_zero, List.setIfInBounds_toArray, List.set_cons_succ, List.set_cons_zero]
        refine wpAnyH_take (i := 4) (v := .bool true) rfl (by kernel_rfl) (by kernel_rfl) (by kernel_rfl) (fun _ _ _ h => h) (Or.inl ⟨by kernel_rfl, fun w hSw => by first | (go_simp; done) | (dsimp only at hSw; obtain ⟨s0, s1, s2, s3, s4, s5, s6, s7, s8, s9, s10, s11⟩ := hSw; go_simp; done) | rfl⟩) (by assumption) ?_
        simp only [Act.put, List.getElem_toArray, List.getElem_cons_succ, List.getElem_cons_zero, List.setIfInBounds_toArray, List.set_cons_succ, List.set_cons_zero]
        refine wpAnyH_take (i := 5) (v := .slice (some ⟨b, u, none⟩) l.length c) rfl (by kernel_rfl) (by kernel_rfl) (by kernel_rfl) (fun _ _ _ h => h) (Or.inl ⟨by kernel_rfl, fun w hSw => by first | (go_simp; done) | (dsimp only at hSw; obtain ⟨s0, s1, s2, s3, s4, s5, s6, s7, s8, s9, s10, s11⟩ := hSw; go_simp; done) | rfl⟩) (by assumption) ?_
        simp only [Act.put, List.getElem_toArray, List.getElem_cons_succ, List.getElem_cons_zero, List.setIfInBounds_toArray, List.set_cons_succ, List.set_cons_zero]
        refine wpAnyH_take (i := 6) (v := .int .i64 k) rfl (by kernel_rfl) (by kernel_rfl) (by kernel_rfl) (fun _ _ _ h => h) (Or.inl ⟨by kernel_rfl, fun w hSw => by first | (go_simp; done) | (dsimp only at hSw; obtain ⟨s0, s1, s2, s3, s4, s5, s6, s7, s8, s9, s10, s11⟩ := hSw; go_simp; done) | rfl⟩) (by assumption) ?_
        simp only [Act.put, List.getElem_toArray, List.getElem_cons_succ, List.getElem_cons_zero, List.setIfInBounds_toArray, List.set_cons_succ, List.set_cons_zero]
        refine wpAnyH_take (i := 7) (v := .pointer (some ⟨b, u + k * 6, none⟩)) rfl (by kernel_rfl) (by kernel_rfl) (by kernel_rfl) (fun _ _ _ h => h) (Or.inl ⟨by kernel_rfl, fun w hSw => by first | (go_simp; done) | (dsimp only at hSw; obtain ⟨s0, s1, s2, s3, s4, s5, s6, s7, s8, s9, s10, s11⟩ := hSw; go_simp; done) | rfl⟩) (by assumption) ?_
        simp only [Act.put, List.getElem_toArray, List.getElem_cons_succ, List.getElem_cons_zero, List.setIfInBounds_toArray, List.set_cons_succ, List.set_cons_zero]
        refine wpAnyH_take (i := 8) (v := lgV p) rfl (by kernel_rfl) (by kernel_rfl) (by kernel_rfl) (fun _ _ _ h => h) (Or.inl ⟨by kernel_rfl, fun w hSw => by first | (go_simp; done) | (dsimp only at hSw; obtain ⟨s0, s1, s2, s3, s4, s5, s6, s7, s8, s9, s10, s11⟩ := hSw; go_simp; done) | rfl⟩) (by assumption) ?_
        simp only [Act.put, List.getElem_toArray, List.getElem_cons_succ, List.getElem_cons_zero, List.setIfInBounds_toArray, List.set_cons_succ, List.set_cons_zero]
        refine wpAnyH_take (i := 9) (v := lgV x) rfl (by kernel_rfl) (by kernel_rfl) (by kernel_rfl) (fun _ _ _ h => h) (Or.inl ⟨by kernel_rfl, fun w hSw => by first | (go_simp; done) | (dsimp only at hSw; obtain ⟨s0, s1, s2, s3, s4, s5, s6, s7, s8, s9, s10, s11⟩ := hSw; go_simp; done) | rfl⟩) (by assumption) ?_
        simp only [Act.put, List.getElem_toArray, List.getElem_cons_succ, List.getElem_cons_zero, List.setIfInBounds_toArray, List.set_cons_succ, List.set_cons_zero]
        refine wpAnyH_ready (rs := [10]) (by kernel_rfl) (by simp) ?_
        refine AllReadyH.cons rfl (fun K hK => ?_) AllReadyH.nil
        go_simp
        go_wp2_with ((go_at_call 41; (with_reducible refine (HB1.out _).mono ?_); rintro e v2 ⟨rfl, Lv2⟩; have Kv2 := (Below.refl wr.heap.size wr).drew.trans Lv2))
        refine hK.out _ _ ?_ (fun hHeld2 => ?_)
        · exact HS.out _ Kv2
        clear hK K hHeld
        have hHeld := hHeld2
        clear hHeld2
        refine wpAnyH_take (i := 11) (v := .bool false) rfl (by kernel_rfl) (by kernel_rfl) (by kernel_rfl) (fun _ _ _ h => h) (Or.inl ⟨by kernel_rfl, fun w hSw => by first | (go_simp; done) | (dsimp only at hSw; obtain ⟨s0, s1, s2, s3, s4, s5, s6, s7, s8, s9, s10, s11⟩ := hSw; go_simp; done) | rfl⟩) (by assumption) ?_
        simp only [Act.put, List.getElem_toArray, List.getElem_cons_succ, List.getElem_cons_zero, List.setIfInBounds_toArray, List.set_cons_succ, List.set_cons_zero]
        refine wpAnyH_done (by kernel_rfl) ?_ _
        have LV := LR.trans (Kv2.mono LR.size)
        clear HS
        have HT : Hid (∀ W, Below v2.heap.size v2 W → W.cell? ⟨b, u + k * 6, none⟩ = some (.int .i64 p.dv) ∧ W.cell? ⟨b, u + k * 6 + 1, none⟩ = some (.int .i64 p.no) ∧ W.cell? ⟨b, u + k * 6 + 2, none⟩ = some (.int .i64 p.tk) ∧ W.cell? ⟨b, u + k * 6 + 3, none⟩ = some (.int .i64 p.tr) ∧ W.cell? ⟨b, u + k * 6 + 4, none⟩ = some (.int .i64 p.dy) ∧ W.cell? ⟨b, u + k * 6 + 5, none⟩ = some (.int .i64 p.sa) ∧ W.cell? ⟨w.heap.size, 0, none⟩ = some (.int .i64 x.dv) ∧ W.cell? ⟨w.heap.size, 1, none⟩ = some (.int .i64 x.no) ∧ W.cell? ⟨w.heap.size, 2, none⟩ = some (.int .i64 x.tk) ∧ W.cell? ⟨w.heap.size, 3, none⟩ = some (.int .i64 x.tr) ∧ W.cell? ⟨w.heap.size, 4, none⟩ = some (.int .i64 x.dy) ∧ W.cell? ⟨w.heap.size, 5, none⟩ = some (.int .i64 x.sa)) := fun W q => HX12.out W (LV.trans (q.mono LV.size))
        have HB2 : Hid (∀ W : World, _) := fun W => before_val x p W
        cases hx : ltC x p
        · rw [hx] at HB2
          have HSAME : Hid (putC l x = l) := by
            show _ = _
            unfold putC
            rw [if_pos (Or.inl (by rw [HHA.out, hx]; rfl))]
          clear hx
          go_wp2
          refine wp_region_held_drew (S := (fun w' => w'.cell? ⟨b, u + k * 6, none⟩ = some (.int .i64 p.dv) ∧ w'.cell? ⟨b, u + k * 6 + 1, none⟩ = some (.int .i64 p.no) ∧ w'.cell? ⟨b, u + k * 6 + 2, none⟩ = some (.int .i64 p.tk) ∧ w'.cell? ⟨b, u + k * 6 + 3, none⟩ = some (.int .i64 p.tr) ∧ w'.cell? ⟨b, u + k * 6 + 4, none⟩ = some (.int .i64 p.dy) ∧ w'.cell? ⟨b, u + k * 6 + 5, none⟩ = some (.int .i64 p.sa) ∧ w'.cell? ⟨w.heap.size, 0, none⟩ = some (.int .i64 x.dv) ∧ w'.cell? ⟨w.heap.size, 1, none⟩ = some (.int .i64 x.no) ∧ w'.cell? ⟨w.heap.size, 2, none⟩ = some (.int .i64 x.tk) ∧ w'.cell? ⟨w.heap.size, 3, none⟩ = some (.int .i64 x.tr) ∧ w'.cell? ⟨w.heap.size, 4, none⟩ = some (.int .i64 x.dy) ∧ w'.cell? ⟨w.heap.size, 5, none⟩ = some (.int .i64 x.sa))) (by kernel_rfl) ?_ (fun hHeld => ?_)
          · exact HT.out _ ((Below.refl v2.heap.size v2).drew)
          refine wpAnyH_take (i := 0) (v := .int .i64 k) rfl (by kernel_rfl) (by kernel_rfl) (by kernel_rfl) (fun _ _ _ h => h) (Or.inl ⟨by kernel_rfl, fun w hSw => by first | (go_simp; done) | (dsimp only at hSw; obtain ⟨s0, s1, s2, s3, s4, s5, s6, s7, s8, s9, s10, s11⟩ := hSw; go_simp; done) | rfl⟩) (by assumption) ?_
          simp only [Act.put, List.getElem_toArray, List.getElem_cons_succ, List.getElem_cons_zero, List.setIfInBounds_toArray, List.set_cons_succ, List.set_cons_zero]
          refine wpAnyH_take (i := 1) (v := .slice (some ⟨b, u, none⟩) l.length c) rfl (by kernel_rfl) (by kernel_rfl) (by kernel_rfl) (fun _ _ _ h => h) (Or.inl ⟨by kernel_rfl, fun w hSw => by first | (go_simp; done) | (dsimp only at hSw; obtain ⟨s0, s1, s2, s3, s4, s5, s6, s7, s8, s9, s10, s11⟩ := hSw; go_simp; done) | rfl⟩) (by assumption) ?_
          simp only [Act.put, List.getElem_toArray, List.getElem_cons_succ, List.getElem_cons_zero, List.setIfInBounds_toArray, List.set_cons_succ, List.set_cons_zero]
          refine wpAnyH_take (i := 2) (v := .int .i64 l.length) rfl (by kernel_rfl) (by kernel_rfl) (by kernel_rfl) (fun _ _ _ h => h) (Or.inl ⟨by kernel_rfl, fun w hSw => by first | (go_simp; done) | (dsimp only at hSw; obtain ⟨s0, s1, s2, s3, s4, s5, s6, s7, s8, s9, s10, s11⟩ := hSw; go_simp; done) | rfl⟩) (by assumption) ?_
          simp only [Act.put, List.getElem_toArray, List.getElem_cons_succ, List.getElem_cons_zero, List.setIfInBounds_toArray, List.set_cons_succ, List.set_cons_zero]
          refine wpAnyH_take (i := 3) (v := .bool true) rfl (by kernel_rfl) (by kernel_rfl) (by kernel_rfl) (fun _ _ _ h => h) (Or.inl ⟨by kernel_rfl, fun w hSw => by first | (go_simp; done) | (dsimp only at hSw; obtain ⟨s0, s1, s2, s3, s4, s5, s6, s7, s8, s9, s10, s11⟩ := hSw; go_simp; done) | rfl⟩) (by assumption) ?_
          simp only [Act.put, List.getElem_toArray, List.getElem_cons_succ, List.getElem_cons_zero, List.setIfInBounds_toArray, List.set_cons_succ, List.set_cons_zero]
          refine wpAnyH_take (i := 4) (v := .bool true) rfl (by kernel_rfl) (by kernel_rfl) (by kernel_rfl) (fun _ _ _ h => h) (Or.inl ⟨by kernel_rfl, fun w hSw => by first | (go_simp; done) | (dsimp only at hSw; obtain ⟨s0, s1, s2, s3, s4, s5, s6, s7, s8, s9, s10, s11⟩ := hSw; go_simp; done) | rfl⟩) (by assumption) ?_
          simp only [Act.put, List.getElem_toArray, List.getElem_cons_succ, List.getElem_cons_zero, List.setIfInBounds_toArray, List.set_cons_succ, List.set_cons_zero]
          refine wpAnyH_take (i := 5) (v := lgV x) rfl (by kernel_rfl) (by kernel_rfl) (by kernel_rfl) (fun _ _ _ h => h) (Or.inl ⟨by kernel_rfl, fun w hSw => by first | (go_simp; done) | (dsimp only at hSw; obtain ⟨s0, s1, s2, s3, s4, s5, s6, s7, s8, s9, s10, s11⟩ := hSw; go_simp; done) | rfl⟩) (by assumption) ?_
          simp only [Act.put, List.getElem_toArray, List.getElem_cons_succ, List.getElem_cons_zero, List.setIfInBounds_toArray, List.set_cons_succ, List.set_cons_zero]
          refine wpAnyH_take (i := 6) (v := .slice (some ⟨b, u, none⟩) l.length c) rfl (by kernel_rfl) (by kernel_rfl) (by kernel_rfl) (fun _ _ _ h => h) (Or.inl ⟨by kernel_rfl, fun w hSw => by first | (go_simp; done) | (dsimp only at hSw; obtain ⟨s0, s1, s2, s3, s4, s5, s6, s7, s8, s9, s10, s11⟩ := hSw; go_simp; done) | rfl⟩) (by assumption) ?_
          simp only [Act.put, List.getElem_toArray, List.getElem_cons_succ, List.getElem_cons_zero, List.setIfInBounds_toArray, List.set_cons_succ, List.set_cons_zero]
          refine wpAnyH_take (i := 7) (v := .int .i64 k) rfl (by kernel_rfl) (by kernel_rfl) (by kernel_rfl) (fun _ _ _ h => h) (Or.inl ⟨by kernel_rfl, fun w hSw => by first | (go_simp; done) | (dsimp only at hSw; obtain ⟨s0, s1, s2, s3, s4, s5, s6, s7, s8, s9, s10, s11⟩ := hSw; go_simp; done) | rfl⟩) (by assumption) ?_
          simp only [Act.put, List.getElem_toArray, List.getElem_cons_succ, List.getElem_cons_zero, List.setIfInBounds_toArray, List.set_cons_succ, List.set_cons_zero]
          refine wpAnyH_take (i := 8) (v := .pointer (some ⟨b, u + k * 6, none⟩)) rfl (by kernel_rfl) (by kernel_rfl) (by kernel_rfl) (fun _ _ _ h => h) (Or.inl ⟨by kernel_rfl, fun w hSw => by first | (go_simp; done) | (dsimp only at hSw; obtain ⟨s0, s1, s2, s3, s4, s5, s6, s7, s8, s9, s10, s11⟩ := hSw; go_simp; done) | rfl⟩) (by assumption) ?_
          simp only [Act.put, List.getElem_toArray, List.getElem_cons_succ, List.getElem_cons_zero, List.setIfInBounds_toArray, List.set_cons_succ, List.set_cons_zero]
          refine wpAnyH_take (i := 9) (v := lgV p) rfl (by kernel_rfl) (by kernel_rfl) (by kernel_rfl) (fun _ _ _ h => h) (Or.inl ⟨by kernel_rfl, fun w hSw => by first | (go_simp; done) | (dsimp only at hSw; obtain ⟨s0, s1, s2, s3, s4, s5, s6, s7, s8, s9, s10, s11⟩ := hSw; go_simp; done) | rfl⟩) (by assumption) ?_
          simp only [Act.put, List.getElem_toArray, List.getElem_cons_succ, List.getElem_cons_zero, List.setIfInBounds_toArray, List.set_cons_succ, List.set_cons_zero]
          refine wpAnyH_ready (rs := [10]) (by kernel_rfl) (by simp) ?_
          refine AllReadyH.cons rfl (fun K hK => ?_) AllReadyH.nil
          go_simp
          go_wp2_with ((go_at_call 41; (with_reducible refine (HB2.out _).mono ?_); rintro e v4 ⟨rfl, Lv4⟩; have Kv4 := (Below.refl v2.heap.size v2).drew.trans Lv4))
          refine hK.out _ _ ?_ (fun hHeld2 => ?_)
          · exact HT.out _ Kv4
          clear hK K hHeld
          have hHeld := hHeld2
          clear hHeld2
          refine wpAnyH_take (i := 11) (v := .bool true) rfl (by kernel_rfl) (by kernel_rfl) (by kernel_rfl) (fun _ _ _ h => h) (Or.inl ⟨by kernel_rfl, fun w hSw => by first | (go_simp; done) | (dsimp only at hSw; obtain ⟨s0, s1, s2, s3, s4, s5, s6, s7, s8, s9, s10, s11⟩ := hSw; go_simp; done) | rfl⟩) (by assumption) ?_
          simp only [Act.put, List.getElem_toArray, List.getElem_cons_succ, List.getElem_cons_zero, List.setIfInBounds_toArray, List.set_cons_succ, List.set_cons_zero]
          refine wpAnyH_take (i := 12) (v := .bool true) rfl (by kernel_rfl) (by kernel_rfl) (by kernel_rfl) (fun _ _ _ h => h) (Or.inl ⟨by kernel_rfl, fun w hSw => by first | (go_simp; done) | (dsimp only at hSw; obtain ⟨s0, s1, s2, s3, s4, s5, s6, s7, s8, s9, s10, s11⟩ := hSw; go_simp; done) | rfl⟩) (by assumption) ?_
          simp only [Act.put, List.getElem_toArray, List.getElem_cons_succ, List.getElem_cons_zero, List.setIfInBounds_toArray, List.set_cons_succ, List.set_cons_zero]
          refine wpAnyH_take (i := 13) (v := .bool true) rfl (by kernel_rfl) (by kernel_rfl) (by kernel_rfl) (fun _ _ _ h => h) (Or.inl ⟨by kernel_rfl, fun w hSw => by first | (go_simp; done) | (dsimp only at hSw; obtain ⟨s0, s1, s2, s3, s4, s5, s6, s7, s8, s9, s10, s11⟩ := hSw; go_simp; done) | rfl⟩) (by assumption) ?_
          simp only [Act.put, List.getElem_toArray, List.getElem_cons_succ, List.getElem_cons_zero, List.setIfInBounds_toArray, List.set_cons_succ, List.set_cons_zero]
          refine wpAnyH_take (i := 14) (v := undef) rfl (by kernel_rfl) (by kernel_rfl) (by kernel_rfl) (fun _ _ _ h => h) (Or.inr ⟨by kernel_rfl, rfl⟩) (by assumption) ?_
          simp only [Act.put, List.getElem_toArray, List.getElem_cons_succ, List.getElem_cons_zero, List.setIfInBounds_toArray, List.set_cons_succ, List.set_cons_zero]
          refine wpAnyH_take (i := 15) (v := undef) rfl (by kernel_rfl) (by kernel_rfl) (by kernel_rfl) (fun _ _ _ h => h) (Or.inr ⟨by kernel_rfl, rfl⟩) (by assumption) ?_
          simp only [Act.put, List.getElem_toArray, List.getElem_cons_succ, List.getElem_cons_zero, List.setIfInBounds_toArray, List.set_cons_succ, List.set_cons_zero]
          refine wpAnyH_take (i := 16) (v := undef) rfl (by kernel_rfl) (by kernel_rfl) (by kernel_rfl) (fun _ _ _ h => h) (Or.inr ⟨by kernel_rfl, rfl⟩) (by assumption) ?_
          simp only [Act.put, List.getElem_toArray, List.getElem_cons_succ, List.getElem_cons_zero, List.setIfInBounds_toArray, List.set_cons_succ, List.set_cons_zero]
          refine wpAnyH_take (i := 17) (v := .bool true) rfl (by kernel_rfl) (by kernel_rfl) (by kernel_rfl) (fun _ _ _ h => h) (Or.inl ⟨by kernel_rfl, fun w hSw => by first | (go_simp; done) | (dsimp only at hSw; obtain ⟨s0, s1, s2, s3, s4, s5, s6, s7, s8, s9, s10, s11⟩ := hSw; go_simp; done) | rfl⟩) (by assumption) ?_
          simp only [Act.put, List.getElem_toArray, List.getElem_cons_succ, List.getElem_cons_zero, List.setIfInBounds_toArray, List.set_cons_succ, List.set_cons_zero]
          refine wpAnyH_done (by kernel_rfl) ?_ _
          have LF := LV.trans (Kv4.mono LV.size)
          have LQ := N0.trans (LF.mono N0.size)
          go_wp2
          go_ret
          exact ⟨_, rfl, Or.inl ⟨HSAME.out, rfl⟩, LQ⟩
        · rw [hx] at HB2
          by_cases hf : 600 ≤ l.length
          · have HSAME : Hid (putC l x = l) := by
              show _ = _
              unfold putC
              rw [if_pos (Or.inr hf)]
            have d6 : decide ((600 : Int) ≤ (l.length : Int)) = true := decide_eq_true (by omega)
            clear hx
            go_wp2
            refine wp_region_held_drew (S := (fun w' => w'.cell? ⟨b, u + k * 6, none⟩ = some (.int .i64 p.dv) ∧ w'.cell? ⟨b, u + k * 6 + 1, none⟩ = some (.int .i64 p.no) ∧ w'.cell? ⟨b, u + k * 6 + 2, none⟩ = some (.int .i64 p.tk) ∧ w'.cell? ⟨b, u + k * 6 + 3, none⟩ = some (.int .i64 p.tr) ∧ w'.cell? ⟨b, u + k * 6 + 4, none⟩ = some (.int .i64 p.dy) ∧ w'.cell? ⟨b, u + k * 6 + 5, none⟩ = some (.int .i64 p.sa) ∧ w'.cell? ⟨w.heap.size, 0, none⟩ = some (.int .i64 x.dv) ∧ w'.cell? ⟨w.heap.size, 1, none⟩ = some (.int .i64 x.no) ∧ w'.cell? ⟨w.heap.size, 2, none⟩ = some (.int .i64 x.tk) ∧ w'.cell? ⟨w.heap.size, 3, none⟩ = some (.int .i64 x.tr) ∧ w'.cell? ⟨w.heap.size, 4, none⟩ = some (.int .i64 x.dy) ∧ w'.cell? ⟨w.heap.size, 5, none⟩ = some (.int .i64 x.sa))) (by kernel_rfl) ?_ (fun hHeld => ?_)
            · exact HT.out _ ((Below.refl v2.heap.size v2).drew)
            refine wpAnyH_take (i := 0) (v := .int .i64 k) rfl (by kernel_rfl) (by kernel_rfl) (by kernel_rfl) (fun _ _ _ h => h) (Or.inl ⟨by kernel_rfl, fun w hSw => by first | (go_simp; done) | (dsimp only at hSw; obtain ⟨s0, s1, s2, s3, s4, s5, s6, s7, s8, s9, s10, s11⟩ := hSw; go_simp; done) | rfl⟩) (by assumption) ?_
            simp only [Act.put, List.getElem_toArray, List.getElem_cons_succ, List.getElem_cons_zero, List.setIfInBounds_toArray, List.set_cons_succ, List.set_cons_zero]
            refine wpAnyH_take (i := 1) (v := .slice (some ⟨b, u, none⟩) l.length c) rfl (by kernel_rfl) (by kernel_rfl) (by kernel_rfl) (fun _ _ _ h => h) (Or.inl ⟨by kernel_rfl, fun w hSw => by first | (go_simp; done) | (dsimp only at hSw; obtain ⟨s0, s1, s2, s3, s4, s5, s6, s7, s8, s9, s10, s11⟩ := hSw; go_simp; done) | rfl⟩) (by assumption) ?_
            simp only [Act.put, List.getElem_toArray, List.getElem_cons_succ, List.getElem_cons_zero, List.setIfInBounds_toArray, List.set_cons_succ, List.set_cons_zero]
            refine wpAnyH_take (i := 2) (v := .int .i64 l.length) rfl (by kernel_rfl) (by kernel_rfl) (by kernel_rfl) (fun _ _ _ h => h) (Or.inl ⟨by kernel_rfl, fun w hSw => by first | (go_simp; done) | (dsimp only at hSw; obtain ⟨s0, s1, s2, s3, s4, s5, s6, s7, s8, s9, s10, s11⟩ := hSw; go_simp; done) | rfl⟩) (by assumption) ?_
            simp only [Act.put, List.getElem_toArray, List.getElem_cons_succ, List.getElem_cons_zero, List.setIfInBounds_toArray, List.set_cons_succ, List.set_cons_zero]
            refine wpAnyH_take (i := 3) (v := .bool true) rfl (by kernel_rfl) (by kernel_rfl) (by kernel_rfl) (fun _ _ _ h => h) (Or.inl ⟨by kernel_rfl, fun w hSw => by first | (go_simp; done) | (dsimp only at hSw; obtain ⟨s0, s1, s2, s3, s4, s5, s6, s7, s8, s9, s10, s11⟩ := hSw; go_simp; done) | rfl⟩) (by assumption) ?_
            simp only [Act.put, List.getElem_toArray, List.getElem_cons_succ, List.getElem_cons_zero, List.setIfInBounds_toArray, List.set_cons_succ, List.set_cons_zero]
            refine wpAnyH_take (i := 4) (v := .bool true) rfl (by kernel_rfl) (by kernel_rfl) (by kernel_rfl) (fun _ _ _ h => h) (Or.inl ⟨by kernel_rfl, fun w hSw => by first | (go_simp; done) | (dsimp only at hSw; obtain ⟨s0, s1, s2, s3, s4, s5, s6, s7, s8, s9, s10, s11⟩ := hSw; go_simp; done) | rfl⟩) (by assumption) ?_
            simp only [Act.put, List.getElem_toArray, List.getElem_cons_succ, List.getElem_cons_zero, List.setIfInBounds_toArray, List.set_cons_succ, List.set_cons_zero]
            refine wpAnyH_take (i := 5) (v := lgV x) rfl (by kernel_rfl) (by kernel_rfl) (by kernel_rfl) (fun _ _ _ h => h) (Or.inl ⟨by kernel_rfl, fun w hSw => by first | (go_simp; done) | (dsimp only at hSw; obtain ⟨s0, s1, s2, s3, s4, s5, s6, s7, s8, s9, s10, s11⟩ := hSw; go_simp; done) | rfl⟩) (by assumption) ?_
            simp only [Act.put, List.getElem_toArray, List.getElem_cons_succ, List.getElem_cons_zero, List.setIfInBounds_toArray, List.set_cons_succ, List.set_cons_zero]
            refine wpAnyH_take (i := 6) (v := .slice (some ⟨b, u, none⟩) l.length c) rfl (by kernel_rfl) (by kernel_rfl) (by kernel_rfl) (fun _ _ _ h => h) (Or.inl ⟨by kernel_rfl, fun w hSw => by first | (go_simp; done) | (dsimp only at hSw; obtain ⟨s0, s1, s2, s3, s4, s5, s6, s7, s8, s9, s10, s11⟩ := hSw; go_simp; done) | rfl⟩) (by assumption) ?_
            simp only [Act.put, List.getElem_toArray, List.getElem_cons_succ, List.getElem_cons_zero, List.setIfInBounds_toArray, List.set_cons_succ, List.set_cons_zero]
            refine wpAnyH_take (i := 7) (v := .int .i64 k) rfl (by kernel_rfl) (by kernel_rfl) (by kernel_rfl) (fun _ _ _ h => h) (Or.inl ⟨by kernel_rfl, fun w hSw => by first | (go_simp; done) | (dsimp only at hSw; obtain ⟨s0, s1, s2, s3, s4, s5, s6, s7, s8, s9, s10, s11⟩ := hSw; go_simp; done) | rfl⟩) (by assumption) ?_
            simp only [Act.put, List.getElem_toArray, List.getElem_cons_succ, List.getElem_cons_zero, List.setIfInBounds_toArray, List.set_cons_succ, List.set_cons_zero]
            refine wpAnyH_take (i := 8) (v := .pointer (some ⟨b, u + k * 6, none⟩)) rfl (by kernel_rfl) (by kernel_rfl) (by kernel_rfl) (fun _ _ _ h => h) (Or.inl ⟨by kernel_rfl, fun w hSw => by first | (go_simp; done) | (dsimp only at hSw; obtain ⟨s0, s1, s2, s3, s4, s5, s6, s7, s8, s9, s10, s11⟩ := hSw; go_simp; done) | rfl⟩) (by assumption) ?_
            simp only [Act.put, List.getElem_toArray, List.getElem_cons_succ, List.getElem_cons_zero, List.setIfInBounds_toArray, List.set_cons_succ, List.set_cons_zero]
            refine wpAnyH_take (i := 9) (v := lgV p) rfl (by kernel_rfl) (by kernel_rfl) (by kernel_rfl) (fun _ _ _ h => h) (Or.inl ⟨by kernel_rfl, fun w hSw => by first | (go_simp; done) | (dsimp only at hSw; obtain ⟨s0, s1, s2, s3, s4, s5, s6, s7, s8, s9, s10, s11⟩ := hSw; go_simp; done) | rfl⟩) (by assumption) ?_
            simp only [Act.put, List.getElem_toArray, List.getElem_cons_succ, List.getElem_cons_zero, List.setIfInBounds_toArray, List.set_cons_succ, List.set_cons_zero]
            refine wpAnyH_ready (rs := [10]) (by kernel_rfl) (by simp) ?_
            refine AllReadyH.cons rfl (fun K hK => ?_) AllReadyH.nil
            go_simp
            go_wp2_with ((go_at_call 41; (with_reducible refine (HB2.out _).mono ?_); rintro e v4 ⟨rfl, Lv4⟩; have Kv4 := (Below.refl v2.heap.size v2).drew.trans Lv4))
            refine hK.out _ _ ?_ (fun hHeld2 => ?_)
            · exact HT.out _ Kv4
            clear hK K hHeld
            have hHeld := hHeld2
            clear hHeld2
            refine wpAnyH_take (i := 11) (v := .bool false) rfl (by kernel_rfl) (by kernel_rfl) (by kernel_rfl) (fun _ _ _ h => h) (Or.inl ⟨by kernel_rfl, fun w hSw => by first | (go_simp; done) | (dsimp only at hSw; obtain ⟨s0, s1, s2, s3, s4, s5, s6, s7, s8, s9, s10, s11⟩ := hSw; go_simp; done) | rfl⟩) (by assumption) ?_
            simp only [Act.put, List.getElem_toArray, List.getElem_cons_succ, List.getElem_cons_zero, List.setIfInBounds_toArray, List.set_cons_succ, List.set_cons_zero]
            refine wpAnyH_take (i := 12) (v := .bool false) rfl (by kernel_rfl) (by kernel_rfl) (by kernel_rfl) (fun _ _ _ h => h) (Or.inl ⟨by kernel_rfl, fun w hSw => by first | (go_simp; done) | (dsimp only at hSw; obtain ⟨s0, s1, s2, s3, s4, s5, s6, s7, s8, s9, s10, s11⟩ := hSw; go_simp; done) | rfl⟩) (by assumption) ?_
            simp only [Act.put, List.getElem_toArray, List.getElem_cons_succ, List.getElem_cons_zero, List.setIfInBounds_toArray, List.set_cons_succ, List.set_cons_zero]
            refine wpAnyH_take (i := 13) (v := .bool false) rfl (by kernel_rfl) (by kernel_rfl) (by kernel_rfl) (fun _ _ _ h => h) (Or.inl ⟨by kernel_rfl, fun w hSw => by first | (go_simp; done) | (dsimp only at hSw; obtain ⟨s0, s1, s2, s3, s4, s5, s6, s7, s8, s9, s10, s11⟩ := hSw; go_simp; done) | rfl⟩) (by assumption) ?_
            simp only [Act.put, List.getElem_toArray, List.getElem_cons_succ, List.getElem_cons_zero, List.setIfInBounds_toArray, List.set_cons_succ, List.set_cons_zero]
            refine wpAnyH_take (i := 14) (v := .slice (some ⟨b, u, none⟩) l.length c) rfl (by kernel_rfl) (by kernel_rfl) (by kernel_rfl) (fun _ _ _ h => h) (Or.inl ⟨by kernel_rfl, fun w hSw => by first | (go_simp; done) | (dsimp only at hSw; obtain ⟨s0, s1, s2, s3, s4, s5, s6, s7, s8, s9, s10, s11⟩ := hSw; go_simp; done) | rfl⟩) (by assumption) ?_
            simp only [Act.put, List.getElem_toArray, List.getElem_cons_succ, List.getElem_cons_zero, List.setIfInBounds_toArray, List.set_cons_succ, List.set_cons_zero]
            refine wpAnyH_take (i := 15) (v := .int .i64 l.length) rfl (by kernel_rfl) (by kernel_rfl) (by kernel_rfl) (fun _ _ _ h => h) (Or.inl ⟨by kernel_rfl, fun w hSw => by first | (go_simp; done) | (dsimp only at hSw; obtain ⟨s0, s1, s2, s3, s4, s5, s6, s7, s8, s9, s10, s11⟩ := hSw; go_simp; done) | rfl⟩) (by assumption) ?_
            simp only [Act.put, List.getElem_toArray, List.getElem_cons_succ, List.getElem_cons_zero, List.setIfInBounds_toArray, List.set_cons_succ, List.set_cons_zero]
            refine wpAnyH_take (i := 16) (v := .bool true) rfl (by kernel_rfl) (by kernel_rfl) (by kernel_rfl) (fun _ _ _ h => h) (Or.inl ⟨by kernel_rfl, fun w hSw => by first | (go_simp; done) | (dsimp only at hSw; obtain ⟨s0, s1, s2, s3, s4, s5, s6, s7, s8, s9, s10, s11⟩ := hSw; go_simp; done) | rfl⟩) (by assumption) ?_
            simp only [Act.put, List.getElem_toArray, List.getElem_cons_succ, List.getElem_cons_zero, List.setIfInBounds_toArray, List.set_cons_succ, List.set_cons_zero]
            refine wpAnyH_take (i := 17) (v := .bool true) rfl (by kernel_rfl) (by kernel_rfl) (by kernel_rfl) (fun _ _ _ h => h) (Or.inl ⟨by kernel_rfl, fun w hSw => by first | (go_simp; done) | (dsimp only at hSw; obtain ⟨s0, s1, s2, s3, s4, s5, s6, s7, s8, s9, s10, s11⟩ := hSw; go_simp; done) | rfl⟩) (by assumption) ?_
            simp only [Act.put, List.getElem_toArray, List.getElem_cons_succ, List.getElem_cons_zero, List.setIfInBounds_toArray, List.set_cons_succ, List.set_cons_zero]
            refine wpAnyH_done (by kernel_rfl) ?_ _
            have LF := LV.trans (Kv4.mono LV.size)
            have LQ := N0.trans (LF.mono N0.size)
            go_wp2
            go_ret
            exact ⟨_, rfl, Or.inl ⟨HSAME.out, rfl⟩, LQ⟩
          · have HPUT : Hid (putC l x = insC x l) := by
              show _ = _
              unfold putC
              rw [if_neg (by rw [HHA.out, hx]; simp; omega)]
            have d6 : decide ((600 : Int) ≤ (l.length : Int)) = false := decide_eq_false (by omega)
            clear hx
            go_wp2
            refine wp_region_held_drew (S := (fun w' => w'.cell? ⟨b, u + k * 6, none⟩ = some (.int .i64 p.dv) ∧ w'.cell? ⟨b, u + k * 6 + 1, none⟩ = some (.int .i64 p.no) ∧ w'.cell? ⟨b, u + k * 6 + 2, none⟩ = some (.int .i64 p.tk) ∧ w'.cell? ⟨b, u + k * 6 + 3, none⟩ = some (.int .i64 p.tr) ∧ w'.cell? ⟨b, u + k * 6 + 4, none⟩ = some (.int .i64 p.dy) ∧ w'.cell? ⟨b, u + k * 6 + 5, none⟩ = some (.int .i64 p.sa) ∧ w'.cell? ⟨w.heap.size, 0, none⟩ = some (.int .i64 x.dv) ∧ w'.cell? ⟨w.heap.size, 1, none⟩ = some (.int .i64 x.no) ∧ w'.cell? ⟨w.heap.size, 2, none⟩ = some (.int .i64 x.tk) ∧ w'.cell? ⟨w.heap.size, 3, none⟩ = some (.int .i64 x.tr) ∧ w'.cell? ⟨w.heap.size, 4, none⟩ = some (.int .i64 x.dy) ∧ w'.cell? ⟨w.heap.size, 5, none⟩ = some (.int .i64 x.sa))) (by kernel_rfl) ?_ (fun hHeld => ?_)
            · exact HT.out _ ((Below.refl v2.heap.size v2).drew)
            refine wpAnyH_take (i := 0) (v := .int .i64 k) rfl (by kernel_rfl) (by kernel_rfl) (by kernel_rfl) (fun _ _ _ h => h) (Or.inl ⟨by kernel_rfl, fun w hSw => by first | (go_simp; done) | (dsimp only at hSw; obtain ⟨s0, s1, s2, s3, s4, s5, s6, s7, s8, s9, s10, s11⟩ := hSw; go_simp; done) | rfl⟩) (by assumption) ?_
            simp only [Act.put, List.getElem_toArray, List.getElem_cons_succ, List.getElem_cons_zero, List.setIfInBounds_toArray, List.set_cons_succ, List.set_cons_zero]
            refine wpAnyH_take (i := 1) (v := .slice (some ⟨b, u, none⟩) l.length c) rfl (by kernel_rfl) (by kernel_rfl) (by kernel_rfl) (fun _ _ _ h => h) (Or.inl ⟨by kernel_rfl, fun w hSw => by first | (go_simp; done) | (dsimp only at hSw; obtain ⟨s0, s1, s2, s3, s4, s5, s6, s7, s8, s9, s10, s11⟩ := hSw; go_simp; done) | rfl⟩) (by assumption) ?_
            simp only [Act.put, List.getElem_toArray, List.getElem_cons_succ, List.getElem_cons_zero, List.setIfInBounds_toArray, List.set_cons_succ, List.set_cons_zero]
            refine wpAnyH_take (i := 2) (v := .int .i64 l.length) rfl (by kernel_rfl) (by kernel_rfl) (by kernel_rfl) (fun _ _ _ h => h) (Or.inl ⟨by kernel_rfl, fun w hSw => by first | (go_simp; done) | (dsimp only at hSw; obtain ⟨s0, s1, s2, s3, s4, s5, s6, s7, s8, s9, s10, s11⟩ := hSw; go_simp; done) | rfl⟩) (by assumption) ?_
            simp only [Act.put, List.getElem_toArray, List.getElem_cons_succ, List.getElem_cons_zero, List.setIfInBounds_toArray, List.set_cons_succ, List.set_cons_zero]
            refine wpAnyH_take (i := 3) (v := .bool true) rfl (by kernel_rfl) (by kernel_rfl) (by kernel_rfl) (fun _ _ _ h => h) (Or.inl ⟨by kernel_rfl, fun w hSw => by first | (go_simp; done) | (dsimp only at hSw; obtain ⟨s0, s1, s2, s3, s4, s5, s6, s7, s8, s9, s10, s11⟩ := hSw; go_simp; done) | rfl⟩) (by assumption) ?_
            simp only [Act.put, List.getElem_toArray, List.getElem_cons_succ, List.getElem_cons_zero, List.setIfInBounds_toArray, List.set_cons_succ, List.set_cons_zero]
            refine wpAnyH_take (i := 4) (v := .bool true) rfl (by kernel_rfl) (by kernel_rfl) (by kernel_rfl) (fun _ _ _ h => h) (Or.inl ⟨by kernel_rfl, fun w hSw => by first | (go_simp; done) | (dsimp only at hSw; obtain ⟨s0, s1, s2, s3, s4, s5, s6, s7, s8, s9, s10, s11⟩ := hSw; go_simp; done) | rfl⟩) (by assumption) ?_
            simp only [Act.put, List.getElem_toArray, List.getElem_cons_succ, List.getElem_cons_zero, List.setIfInBounds_toArray, List.set_cons_succ, List.set_cons_zero]
            refine wpAnyH_take (i := 5) (v := lgV x) rfl (by kernel_rfl) (by kernel_rfl) (by kernel_rfl) (fun _ _ _ h => h) (Or.inl ⟨by kernel_rfl, fun w hSw => by first | (go_simp; done) | (dsimp only at hSw; obtain ⟨s0, s1, s2, s3, s4, s5, s6, s7, s8, s9, s10, s11⟩ := hSw; go_simp; done) | rfl⟩) (by assumption) ?_
            simp only [Act.put, List.getElem_toArray, List.getElem_cons_succ, List.getElem_cons_zero, List.setIfInBounds_toArray, List.set_cons_succ, List.set_cons_zero]
            refine wpAnyH_take (i := 6) (v := .slice (some ⟨b, u, none⟩) l.length c) rfl (by kernel_rfl) (by kernel_rfl) (by kernel_rfl) (fun _ _ _ h => h) (Or.inl ⟨by kernel_rfl, fun w hSw => by first | (go_simp; done) | (dsimp only at hSw; obtain ⟨s0, s1, s2, s3, s4, s5, s6, s7, s8, s9, s10, s11⟩ := hSw; go_simp; done) | rfl⟩) (by assumption) ?_
            simp only [Act.put, List.getElem_toArray, List.getElem_cons_succ, List.getElem_cons_zero, List.setIfInBounds_toArray, List.set_cons_succ, List.set_cons_zero]
            refine wpAnyH_take (i := 7) (v := .int .i64 k) rfl (by kernel_rfl) (by kernel_rfl) (by kernel_rfl) (fun _ _ _ h => h) (Or.inl ⟨by kernel_rfl, fun w hSw => by first | (go_simp; done) | (dsimp only at hSw; obtain ⟨s0, s1, s2, s3, s4, s5, s6, s7, s8, s9, s10, s11⟩ := hSw; go_simp; done) | rfl⟩) (by assumption) ?_
            simp only [Act.put, List.getElem_toArray, List.getElem_cons_succ, List.getElem_cons_zero, List.setIfInBounds_toArray, List.set_cons_succ, List.set_cons_zero]
            refine wpAnyH_take (i := 8) (v := .pointer (some ⟨b, u + k * 6, none⟩)) rfl (by kernel_rfl) (by kernel_rfl) (by kernel_rfl) (fun _ _ _ h => h) (Or.inl ⟨by kernel_rfl, fun w hSw => by first | (go_simp; done) | (dsimp only at hSw; obtain ⟨s0, s1, s2, s3, s4, s5, s6, s7, s8, s9, s10, s11⟩ := hSw; go_simp; done) | rfl⟩) (by assumption) ?_
            simp only [Act.put, List.getElem_toArray, List.getElem_cons_succ, List.getElem_cons_zero, List.setIfInBounds_toArray, List.set_cons_succ, List.set_cons_zero]
            refine wpAnyH_take (i := 9) (v := lgV p) rfl (by kernel_rfl) (by kernel_rfl) (by kernel_rfl) (fun _ _ _ h => h) (Or.inl ⟨by kernel_rfl, fun w hSw => by first | (go_simp; done) | (dsimp only at hSw; obtain ⟨s0, s1, s2, s3, s4, s5, s6, s7, s8, s9, s10, s11⟩ := hSw; go_simp; done) | rfl⟩) (by assumption) ?_
            simp only [Act.put, List.getElem_toArray, List.getElem_cons_succ, List.getElem_cons_zero, List.setIfInBounds_toArray, List.set_cons_succ, List.set_cons_zero]
            refine wpAnyH_ready (rs := [10]) (by kernel_rfl) (by simp) ?_
            refine AllReadyH.cons rfl (fun K hK => ?_) AllReadyH.nil
            go_simp
            go_wp2_with ((go_at_call 41; (with_reducible refine (HB2.out _).mono ?_); rintro e v4 ⟨rfl, Lv4⟩; have Kv4 := (Below.refl v2.heap.size v2).drew.trans Lv4))
            refine hK.out _ _ ?_ (fun hHeld2 => ?_)
            · exact HT.out _ Kv4
            clear hK K hHeld
            have hHeld := hHeld2
            clear hHeld2
            refine wpAnyH_take (i := 11) (v := .bool false) rfl (by kernel_rfl) (by kernel_rfl) (by kernel_rfl) (fun _ _ _ h => h) (Or.inl ⟨by kernel_rfl, fun w hSw => by first | (go_simp; done) | (dsimp only at hSw; obtain ⟨s0, s1, s2, s3, s4, s5, s6, s7, s8, s9, s10, s11⟩ := hSw; go_simp; done) | rfl⟩) (by assumption) ?_
            simp only [Act.put, List.getElem_toArray, List.getElem_cons_succ, List.getElem_cons_zero, List.setIfInBounds_toArray, List.set_cons_succ, List.set_cons_zero]
            refine wpAnyH_take (i := 12) (v := .bool false) rfl (by kernel_rfl) (by kernel_rfl) (by kernel_rfl) (fun _ _ _ h => h) (Or.inl ⟨by kernel_rfl, fun w hSw => by first | (go_simp; done) | (dsimp only at hSw; obtain ⟨s0, s1, s2, s3, s4, s5, s6, s7, s8, s9, s10, s11⟩ := hSw; go_simp; done) | rfl⟩) (by assumption) ?_
            simp only [Act.put, List.getElem_toArray, List.getElem_cons_succ, List.getElem_cons_zero, List.setIfInBounds_toArray, List.set_cons_succ, List.set_cons_zero]
            refine wpAnyH_take (i := 13) (v := .bool false) rfl (by kernel_rfl) (by kernel_rfl) (by kernel_rfl) (fun _ _ _ h => h) (Or.inl ⟨by kernel_rfl, fun w hSw => by first | (go_simp; done) | (dsimp only at hSw; obtain ⟨s0, s1, s2, s3, s4, s5, s6, s7, s8, s9, s10, s11⟩ := hSw; go_simp; done) | rfl⟩) (by assumption) ?_
            simp only [Act.put, List.getElem_toArray, List.getElem_cons_succ, List.getElem_cons_zero, List.setIfInBounds_toArray, List.set_cons_succ, List.set_cons_zero]
            refine wpAnyH_take (i := 14) (v := .slice (some ⟨b, u, none⟩) l.length c) rfl (by kernel_rfl) (by kernel_rfl) (by kernel_rfl) (fun _ _ _ h => h) (Or.inl ⟨by kernel_rfl, fun w hSw => by first | (go_simp; done) | (dsimp only at hSw; obtain ⟨s0, s1, s2, s3, s4, s5, s6, s7, s8, s9, s10, s11⟩ := hSw; go_simp; done) | rfl⟩) (by assumption) ?_
            simp only [Act.put, List.getElem_toArray, List.getElem_cons_succ, List.getElem_cons_zero, List.setIfInBounds_toArray, List.set_cons_succ, List.set_cons_zero]
            refine wpAnyH_take (i := 15) (v := .int .i64 l.length) rfl (by kernel_rfl) (by kernel_rfl) (by kernel_rfl) (fun _ _ _ h => h) (Or.inl ⟨by kernel_rfl, fun w hSw => by first | (go_simp; done) | (dsimp only at hSw; obtain ⟨s0, s1, s2, s3, s4, s5, s6, s7, s8, s9, s10, s11⟩ := hSw; go_simp; done) | rfl⟩) (by assumption) ?_
            simp only [Act.put, List.getElem_toArray, List.getElem_cons_succ, List.getElem_cons_zero, List.setIfInBounds_toArray, List.set_cons_succ, List.set_cons_zero]
            refine wpAnyH_take (i := 16) (v := .bool false) rfl (by kernel_rfl) (by kernel_rfl) (by kernel_rfl) (fun _ _ _ h => h) (Or.inl ⟨by kernel_rfl, fun w hSw => by first | (go_simp; done) | (dsimp only at hSw; obtain ⟨s0, s1, s2, s3, s4, s5, s6, s7, s8, s9, s10, s11⟩ := hSw; go_simp; done) | rfl⟩) (by assumption) ?_
            simp only [Act.put, List.getElem_toArray, List.getElem_cons_succ, List.getElem_cons_zero, List.setIfInBounds_toArray, List.set_cons_succ, List.set_cons_zero]
            refine wpAnyH_take (i := 17) (v := .bool false) rfl (by kernel_rfl) (by kernel_rfl) (by kernel_rfl) (fun _ _ _ h => h) (Or.inl ⟨by kernel_rfl, fun w hSw => by first | (go_simp; done) | (dsimp only at hSw; obtain ⟨s0, s1, s2, s3, s4, s5, s6, s7, s8, s9, s10, s11⟩ := hSw; go_simp; done) | rfl⟩) (by assumption) ?_
            simp only [Act.put, List.getElem_toArray, List.getElem_cons_succ, List.getElem_cons_zero, List.setIfInBounds_toArray, List.set_cons_succ, List.set_cons_zero]
            refine wpAnyH_done (by kernel_rfl) ?_ _
            have LF := LV.trans (Kv4.mono LV.size)
            have HT6 : Hid (∀ W, Below v4.heap.size v4 W → W.cell? ⟨w.heap.size, 0, none⟩ = some (.int .i64 x.dv) ∧ W.cell? ⟨w.heap.size, 1, none⟩ = some (.int .i64 x.no) ∧ W.cell? ⟨w.heap.size, 2, none⟩ = some (.int .i64 x.tk) ∧ W.cell? ⟨w.heap.size, 3, none⟩ = some (.int .i64 x.tr) ∧ W.cell? ⟨w.heap.size, 4, none⟩ = some (.int .i64 x.dy) ∧ W.cell? ⟨w.heap.size, 5, none⟩ = some (.int .i64 x.sa)) := fun W q => HX6.out W (LF.trans (q.mono LF.size))
            go_wp2
            have hkc : k ≤ c := by omega
            have hkz : (0 : Int) ≤ (k : Int) := by omega
            have hkn2 : (k : Int) ≤ (l.length : Int) := by omega
            have hkc2 : (k : Int) ≤ (c : Int) := by omega
            have hnc : (l.length : Int) ≤ (c : Int) := by omega
            have hsrc1 : ∀ W, Below v4.heap.size v4 W → _ := fun W q => ctls_take k ((I0.on LF).on q)
            obtain ⟨u2, hu2a, hu2b⟩ : ∃ u2, (c = k → u2 = u) ∧ (¬ c = k → u2 = u + k * 6) := ⟨if c = k then u else u + k * 6, fun h => if_pos h, fun h => if_neg h⟩
            have hsrc2 : ∀ W, Below v4.heap.size v4 W → _ := fun W q => ctls_rest (n := c) hc hk hu2b ((I0.on LF).on q)
            have hLsz : w.heap.size ≤ v4.heap.size := Nat.le_trans N0.size LF.size
            have HEQ : Hid (∀ (v : Value) (W : World), W.ownsRow v4.heap.size 37 6 v (k + 1 + (l.length - k)) (ccells (l.take k) ++ cc1 x ++ ccells (l.drop k)) → ∃ g c', v = .slice (some ⟨g, 0, none⟩) (putC l x).length c' ∧ (putC l x).length ≤ c' ∧ W.ownsRow w.heap.size 37 6 (.slice (some ⟨g, 0, none⟩) (putC l x).length c') (putC l x).length (ccells (putC l x))) := by
              intro v W O
              rw [HPUT.out]
              have e1 : k + 1 + (l.length - k) = (insC x l).length := by rw [insC_len]; omega
              have e2 : ccells (l.take k) ++ cc1 x ++ ccells (l.drop k) = ccells (insC x l) := by unfold insC; rw [HKP.out]; simp [ccells]
              rw [e1, e2] at O
              have O2 := own_lower O hLsz
              obtain ⟨h1, ⟨rfl, h0⟩ | ⟨g, cap, cur, rfl, hg, hh, hnc, hr⟩⟩ := O
              · rw [insC_len] at h0; omega
              · exact ⟨g, cap, rfl, hnc, O2⟩
            refine wp_region_held_drew (S := (fun w' => w'.cell? ⟨w.heap.size, 0, none⟩ = some (.int .i64 x.dv) ∧ w'.cell? ⟨w.heap.size, 1, none⟩ = some (.int .i64 x.no) ∧ w'.cell? ⟨w.heap.size, 2, none⟩ = some (.int .i64 x.tk) ∧ w'.cell? ⟨w.heap.size, 3, none⟩ = some (.int .i64 x.tr) ∧ w'.cell? ⟨w.heap.size, 4, none⟩ = some (.int .i64 x.dy) ∧ w'.cell? ⟨w.heap.size, 5, none⟩ = some (.int .i64 x.sa))) (by kernel_rfl) ?_ (fun hHeld => ?_)
            · exact HT6.out _ (Below.refl v4.heap.size v4).drew
            refine wpAnyH_take (i := 1) (v := .slice (some ⟨b, u, none⟩) l.length c) rfl (by kernel_rfl) (by kernel_rfl) (by kernel_rfl) (fun _ _ _ h => h) (Or.inl ⟨by kernel_rfl, fun w hSw => by first | (go_simp; done) | (dsimp only at hSw; obtain ⟨s0, s1, s2, s3, s4, s5⟩ := hSw; go_simp; done) | rfl⟩) (by assumption) ?_
            simp only [Act.put, List.getElem_toArray, List.getElem_cons_succ, List.getElem_cons_zero, List.setIfInBounds_toArray, List.set_cons_succ, List.set_cons_zero]
            refine wpAnyH_take (i := 2) (v := .int .i64 k) rfl (by kernel_rfl) (by kernel_rfl) (by kernel_rfl) (fun _ _ _ h => h) (Or.inl ⟨by kernel_rfl, fun w hSw => by first | (go_simp; done) | (dsimp only at hSw; obtain ⟨s0, s1, s2, s3, s4, s5⟩ := hSw; go_simp; done) | rfl⟩) (by assumption) ?_
            simp only [Act.put, List.getElem_toArray, List.getElem_cons_succ, List.getElem_cons_zero, List.setIfInBounds_toArray, List.set_cons_succ, List.set_cons_zero]
            refine wpAnyH_take (i := 3) (v := .slice (some ⟨b, u, none⟩) k c) rfl (by kernel_rfl) (by kernel_rfl) (by kernel_rfl) (fun _ _ _ h => h) (Or.inl ⟨by kernel_rfl, fun w hSw => by first | (go_simp; done) | (dsimp only at hSw; obtain ⟨s0, s1, s2, s3, s4, s5⟩ := hSw; go_simp; done) | rfl⟩) (by assumption) ?_
            simp only [Act.put, List.getElem_toArray, List.getElem_cons_succ, List.getElem_cons_zero, List.setIfInBounds_toArray, List.set_cons_succ, List.set_cons_zero]
            refine wpAnyH_take (i := 5) (v := lgV x) rfl (by kernel_rfl) (by kernel_rfl) (by kernel_rfl) (fun _ _ _ h => h) (Or.inl ⟨by kernel_rfl, fun w hSw => by first | (go_simp; done) | (dsimp only at hSw; obtain ⟨s0, s1, s2, s3, s4, s5⟩ := hSw; go_simp; done) | rfl⟩) (by assumption) ?_
            simp only [Act.put, List.getElem_toArray, List.getElem_cons_succ, List.getElem_cons_zero, List.setIfInBounds_toArray, List.set_cons_succ, List.set_cons_zero]
            refine wpAnyH_take (i := 8) (v := .slice (some ⟨b, u, none⟩) l.length c) rfl (by kernel_rfl) (by kernel_rfl) (by kernel_rfl) (fun _ _ _ h => h) (Or.inl ⟨by kernel_rfl, fun w hSw => by first | (go_simp; done) | (dsimp only at hSw; obtain ⟨s0, s1, s2, s3, s4, s5⟩ := hSw; go_simp; done) | rfl⟩) (by assumption) ?_
            simp only [Act.put, List.getElem_toArray, List.getElem_cons_succ, List.getElem_cons_zero, List.setIfInBounds_toArray, List.set_cons_succ, List.set_cons_zero]
            refine wpAnyH_take (i := 9) (v := .int .i64 k) rfl (by kernel_rfl) (by kernel_rfl) (by kernel_rfl) (fun _ _ _ h => h) (Or.inl ⟨by kernel_rfl, fun w hSw => by first | (go_simp; done) | (dsimp only at hSw; obtain ⟨s0, s1, s2, s3, s4, s5⟩ := hSw; go_simp; done) | rfl⟩) (by assumption) ?_
            simp only [Act.put, List.getElem_toArray, List.getElem_cons_succ, List.getElem_cons_zero, List.setIfInBounds_toArray, List.set_cons_succ, List.set_cons_zero]
            refine wpAnyH_take (i := 10) (v := .slice (some ⟨b, u2, none⟩) (l.length - k) (c - k)) rfl (by kernel_rfl) (by kernel_rfl) (by kernel_rfl) (fun _ _ _ h => h) (Or.inl ⟨by kernel_rfl, fun w hSw => by (by_cases hxk : c = k; (· (rw [hu2a hxk]; go_simp; done)); (· (rw [hu2b hxk]; go_simp; done)))⟩) (by assumption) ?_
            simp only [Act.put, List.getElem_toArray, List.getElem_cons_succ, List.getElem_cons_zero, List.setIfInBounds_toArray, List.set_cons_succ, List.set_cons_zero]
            have KD := (Below.refl v4.heap.size v4).drew
            generalize v4.drew = vd at *
            refine wpAnyH_ready (rs := [0, 6]) (by kernel_rfl) (by simp) ?_
            refine AllReadyH.cons rfl (fun K hK => ?_) (AllReadyH.cons rfl (fun K hK => ?_) (AllReadyH.nil))
            · go_simp
              have zN18 := new_below vd (.cells #[] 37)
              have zm18 := heap_new vd (.cells #[] 37)
              have zK18 := join_below KD zN18
              have zO18 := own_lower (nil_row vd 37 6) (show v4.heap.size ≤ vd.heap.size from (KD).size)
              refine hK.out _ _ ?_ (fun hHeld2 => ?_)
              · exact HT6.out _ (zK18)
              clear hK K hHeld
              have hHeld := hHeld2
              clear hHeld2
              obtain ⟨zav18, zhav18⟩ : ∃ av, (Value.slice (some ⟨vd.heap.size, 0, none⟩) 0 0) = av := ⟨_, rfl⟩
              rw [zhav18] at zO18
              try rw [zhav18]
              clear zhav18
              generalize (vd.alloc (.cells #[] 37)) = zw18 at *
              refine wpAnyH_ready (rs := [4, 6]) (by kernel_rfl) (by simp) ?_
              refine AllReadyH.cons rfl (fun K hK => ?_) (AllReadyH.cons rfl (fun K hK => ?_) (AllReadyH.nil))
              · rw [if_pos (by kernel_rfl)]
                refine wp_append_at _ _ 25 rfl v4.heap.size 37 i0 (lgV ⟨0, 0, 0, 0, 0, 0⟩) 6 48 Try.underlying25 hi hz0 hz1 hz3 rfl (by omega) _ _ _ rfl zO18 ⟨b, u, none⟩ k c (ccells (l.take k)) rfl (by rw [ccells_length, List.length_take]; congr 1; omega) (fun j v hv => (hsrc1 _ (zK18)) j v hv) (ccells_one _) (by unfold maxLen; omega) (by omega) (by have h3 := (zK18).size; omega) ?_
                intro zv19 zw19 zO19 zG19 zhl19
                have zK19 := (zK18).grown zG19 (zK18).size (fun j hj => (zO18.lt j hj).1)
                rw [Nat.zero_add, List.nil_append] at zO19
                clear zG19 zhl19
                refine hK.out _ _ ?_ (fun hHeld2 => ?_)
                · exact HT6.out _ (zK19)
                clear hK K hHeld
                have hHeld := hHeld2
                clear hHeld2
                refine wpAnyH_ready (rs := [6]) (by kernel_rfl) (by simp) ?_
                refine AllReadyH.cons rfl (fun K hK => ?_) (AllReadyH.nil)
                go_simp
                have zN20 := new_below zw19 (.cells #[.int .i64 x.dv, .int .i64 x.no, .int .i64 x.tk, .int .i64 x.tr, .int .i64 x.dy, .int .i64 x.sa] 37)
                have zm20 := heap_new zw19 (.cells #[.int .i64 x.dv, .int .i64 x.no, .int .i64 x.tk, .int .i64 x.tr, .int .i64 x.dy, .int .i64 x.sa] 37)
                have zK20 := join_below zK19 zN20
                have zO20 := own_below zO19 zN20 (Nat.le_refl _)
                have zhn20 : (zv19).ownBlock ≠ some zw19.heap.size := fun h => by have := (zO19.lt _ h).2; omega
                refine hK.out _ _ ?_ (fun hHeld2 => ?_)
                · exact HT6.out _ (zK20)
                clear hK K hHeld
                have hHeld := hHeld2
                clear hHeld2
                obtain ⟨zad20, zhad20⟩ : ∃ ad, zw19.heap.size = ad := ⟨_, rfl⟩
                rw [zhad20] at zm20 zhn20
                try rw [zhad20]
                clear zhad20
                generalize (zw19.alloc (.cells #[.int .i64 x.dv, .int .i64 x.no, .int .i64 x.tk, .int .i64 x.tr, .int .i64 x.dy, .int .i64 x.sa] 37)) = zw20 at *
                refine wpAnyH_ready (rs := [7]) (by kernel_rfl) (by simp) ?_
                refine AllReadyH.cons rfl (fun K hK => ?_) (AllReadyH.nil)
                rw [if_pos (by kernel_rfl)]
                refine wp_append_at _ _ 25 rfl v4.heap.size 37 i0 (lgV ⟨0, 0, 0, 0, 0, 0⟩) 6 48 Try.underlying25 hi hz0 hz1 hz3 rfl (by omega) _ _ _ rfl zO20 ⟨zad20, 0, none⟩ 1 1 (cc1 x) rfl rfl (six_of zm20) (cc1_ones x) (by unfold maxLen; omega) (by omega) (by have h3 := (zK20).size; omega) ?_
                intro zv21 zw21 zO21 zG21 zhl21
                have zK21 := (zK20).grown zG21 (zK20).size (fun j hj => (zO20.lt j hj).1)
                clear zG21 zhl21
                refine hK.out _ _ ?_ (fun hHeld2 => ?_)
                · exact HT6.out _ (zK21)
                clear hK K hHeld
                have hHeld := hHeld2
                clear hHeld2
                refine wpAnyH_ready (rs := [11]) (by kernel_rfl) (by simp) ?_
                refine AllReadyH.cons rfl (fun K hK => ?_) (AllReadyH.nil)
                rw [if_pos (by kernel_rfl)]
                refine wp_append_at _ _ 25 rfl v4.heap.size 37 i0 (lgV ⟨0, 0, 0, 0, 0, 0⟩) 6 48 Try.underlying25 hi hz0 hz1 hz3 rfl (by omega) _ _ _ rfl zO21 ⟨b, u2, none⟩ (l.length - k) (c - k) (ccells (l.drop k)) rfl (by rw [ccells_length, List.length_drop]) (fun j v hv => (hsrc2 _ (zK21)) j v hv) (ccells_one _) (by unfold maxLen; omega) (by omega) (by have h3 := (zK21).size; omega) ?_
                intro zv22 zw22 zO22 zG22 zhl22
                have zK22 := (zK21).grown zG22 (zK21).size (fun j hj => (zO21.lt j hj).1)
                clear zG22 zhl22
                refine hK.out _ _ ?_ (fun hHeld2 => ?_)
                · exact HT6.out _ (zK22)
                clear hK K hHeld
                have hHeld := hHeld2
                clear hHeld2
                refine wpAnyH_ready (rs := [12]) (by kernel_rfl) (by simp) ?_
                refine AllReadyH.cons rfl (fun K hK => ?_) (AllReadyH.nil)
                go_simp
                refine hK.out _ _ ?_ (fun hHeld2 => ?_)
                · exact HT6.out _ (zK22)
                clear hK K hHeld
                have hHeld := hHeld2
                clear hHeld2
                refine wpAnyH_done (by kernel_rfl) ?_ _
                obtain ⟨g, c', hv, hcc, hO⟩ := HEQ.out _ _ zO22
                subst hv
                have LQ := N0.trans ((LF.trans ((zK22).mono LF.size)).mono N0.size)
                go_wp2
                go_ret
                exact ⟨_, rfl, Or.inr ⟨g, c', rfl, hcc, hO⟩, LQ⟩
              · go_simp
                have zN24 := new_below zw18 (.cells #[.int .i64 x.dv, .int .i64 x.no, .int .i64 x.tk, .int .i64 x.tr, .int .i64 x.dy, .int .i64 x.sa] 37)
                have zm24 := heap_new zw18 (.cells #[.int .i64 x.dv, .int .i64 x.no, .int .i64 x.tk, .int .i64 x.tr, .int .i64 x.dy, .int .i64 x.sa] 37)
                have zK24 := join_below zK18 zN24
                have zO24 := own_below zO18 zN24 (Nat.le_refl _)
                have zhn24 : (zav18).ownBlock ≠ some zw18.heap.size := fun h => by have := (zO18.lt _ h).2; omega
                refine hK.out _ _ ?_ (fun hHeld2 => ?_)
                · exact HT6.out _ (zK24)
                clear hK K hHeld
                have hHeld := hHeld2
                clear hHeld2
                obtain ⟨zad24, zhad24⟩ : ∃ ad, zw18.heap.size = ad := ⟨_, rfl⟩
                rw [zhad24] at zm24 zhn24
                try rw [zhad24]
                clear zhad24
                generalize (zw18.alloc (.cells #[.int .i64 x.dv, .int .i64 x.no, .int .i64 x.tk, .int .i64 x.tr, .int .i64 x.dy, .int .i64 x.sa] 37)) = zw24 at *
                refine wpAnyH_ready (rs := [4]) (by kernel_rfl) (by simp) ?_
                refine AllReadyH.cons rfl (fun K hK => ?_) (AllReadyH.nil)
                rw [if_pos (by kernel_rfl)]
                refine wp_append_at _ _ 25 rfl v4.heap.size 37 i0 (lgV ⟨0, 0, 0, 0, 0, 0⟩) 6 48 Try.underlying25 hi hz0 hz1 hz3 rfl (by omega) _ _ _ rfl zO24 ⟨b, u, none⟩ k c (ccells (l.take k)) rfl (by rw [ccells_length, List.length_take]; congr 1; omega) (fun j v hv => (hsrc1 _ (zK24)) j v hv) (ccells_one _) (by unfold maxLen; omega) (by omega) (by have h3 := (zK24).size; omega) ?_
                intro zv25 zw25 zO25 zG25 zhl25
                have zK25 := (zK24).grown zG25 (zK24).size (fun j hj => (zO24.lt j hj).1)
                have zq25 : zw25.heap[zad24]? = some (.cells #[.int .i64 x.dv, .int .i64 x.no, .int .i64 x.tk, .int .i64 x.tr, .int .i64 x.dy, .int .i64 x.sa] 37) := by rw [zG25.block zad24 (lt_of zm24) (fun h => zhn24 h.symm)]; exact zm24
                have zhn25 : zv25.ownBlock ≠ some zad24 := by
                  rcases zhl25 with h | h
                  · rw [h]; exact zhn24
                  · rw [h]; intro h2; have := lt_of zm24; simp at h2; omega
                rw [Nat.zero_add, List.nil_append] at zO25
                clear zG25 zhl25
                refine hK.out _ _ ?_ (fun hHeld2 => ?_)
                · exact HT6.out _ (zK25)
                clear hK K hHeld
                have hHeld := hHeld2
                clear hHeld2
                refine wpAnyH_ready (rs := [7]) (by kernel_rfl) (by simp) ?_
                refine AllReadyH.cons rfl (fun K hK => ?_) (AllReadyH.nil)
                rw [if_pos (by kernel_rfl)]
                refine wp_append_at _ _ 25 rfl v4.heap.size 37 i0 (lgV ⟨0, 0, 0, 0, 0, 0⟩) 6 48 Try.underlying25 hi hz0 hz1 hz3 rfl (by omega) _ _ _ rfl zO25 ⟨zad24, 0, none⟩ 1 1 (cc1 x) rfl rfl (six_of zq25) (cc1_ones x) (by unfold maxLen; omega) (by omega) (by have h3 := (zK25).size; omega) ?_
                intro zv26 zw26 zO26 zG26 zhl26
                have zK26 := (zK25).grown zG26 (zK25).size (fun j hj => (zO25.lt j hj).1)
                clear zG26 zhl26
                refine hK.out _ _ ?_ (fun hHeld2 => ?_)
                · exact HT6.out _ (zK26)
                clear hK K hHeld
                have hHeld := hHeld2
                clear hHeld2
                refine wpAnyH_ready (rs := [11]) (by kernel_rfl) (by simp) ?_
                refine AllReadyH.cons rfl (fun K hK => ?_) (AllReadyH.nil)
                rw [if_pos (by kernel_rfl)]
                refine wp_append_at _ _ 25 rfl v4.heap.size 37 i0 (lgV ⟨0, 0, 0, 0, 0, 0⟩) 6 48 Try.underlying25 hi hz0 hz1 hz3 rfl (by omega) _ _ _ rfl zO26 ⟨b, u2, none⟩ (l.length - k) (c - k) (ccells (l.drop k)) rfl (by rw [ccells_length, List.length_drop]) (fun j v hv => (hsrc2 _ (zK26)) j v hv) (ccells_one _) (by unfold maxLen; omega) (by omega) (by have h3 := (zK26).size; omega) ?_
                intro zv27 zw27 zO27 zG27 zhl27
                have zK27 := (zK26).grown zG27 (zK26).size (fun j hj => (zO26.lt j hj).1)
                clear zG27 zhl27
                refine hK.out _ _ ?_ (fun hHeld2 => ?_)
                · exact HT6.out _ (zK27)
                clear hK K hHeld
                have hHeld := hHeld2
                clear hHeld2
                refine wpAnyH_ready (rs := [12]) (by kernel_rfl) (by simp) ?_
                refine AllReadyH.cons rfl (fun K hK => ?_) (AllReadyH.nil)
                go_simp
                refine hK.out _ _ ?_ (fun hHeld2 => ?_)
                · exact HT6.out _ (zK27)
                clear hK K hHeld
                have hHeld := hHeld2
                clear hHeld2
                refine wpAnyH_done (by kernel_rfl) ?_ _
                obtain ⟨g, c', hv, hcc, hO⟩ := HEQ.out _ _ zO27
                subst hv
                have LQ := N0.trans ((LF.trans ((zK27).mono LF.size)).mono N0.size)
                go_wp2
                go_ret
                exact ⟨_, rfl, Or.inr ⟨g, c', rfl, hcc, hO⟩, LQ⟩
            · go_simp
              have zN29 := new_below vd (.cells #[.int .i64 x.dv, .int .i64 x.no, .int .i64 x.tk, .int .i64 x.tr, .int .i64 x.dy, .int .i64 x.sa] 37)
              have zm29 := heap_new vd (.cells #[.int .i64 x.dv, .int .i64 x.no, .int .i64 x.tk, .int .i64 x.tr, .int .i64 x.dy, .int .i64 x.sa] 37)
              have zK29 := join_below KD zN29
              refine hK.out _ _ ?_ (fun hHeld2 => ?_)
              · exact HT6.out _ (zK29)
              clear hK K hHeld
              have hHeld := hHeld2
              clear hHeld2
              obtain ⟨zad29, zhad29⟩ : ∃ ad, vd.heap.size = ad := ⟨_, rfl⟩
              rw [zhad29] at zm29
              try rw [zhad29]
              clear zhad29
              generalize (vd.alloc (.cells #[.int .i64 x.dv, .int .i64 x.no, .int .i64 x.tk, .int .i64 x.tr, .int .i64 x.dy, .int .i64 x.sa] 37)) = zw29 at *
              refine wpAnyH_ready (rs := [0]) (by kernel_rfl) (by simp) ?_
              refine AllReadyH.cons rfl (fun K hK => ?_) (AllReadyH.nil)
              go_simp
              have zN30 := new_below zw29 (.cells #[] 37)
              have zm30 := heap_new zw29 (.cells #[] 37)
              have zK30 := join_below zK29 zN30
              have zO30 := own_lower (nil_row zw29 37 6) (show v4.heap.size ≤ zw29.heap.size from (zK29).size)
              have zq30 := kept zN30 (lt_of zm29) zm29
              have zhn30 : (Value.slice (some ⟨zw29.heap.size, 0, none⟩) 0 0).ownBlock ≠ some zad29 := by have := lt_of zm29; simp [Value.ownBlock]; omega
              refine hK.out _ _ ?_ (fun hHeld2 => ?_)
              · exact HT6.out _ (zK30)
              clear hK K hHeld
              have hHeld := hHeld2
              clear hHeld2
              obtain ⟨zav30, zhav30⟩ : ∃ av, (Value.slice (some ⟨zw29.heap.size, 0, none⟩) 0 0) = av := ⟨_, rfl⟩
              rw [zhav30] at zO30 zhn30
              try rw [zhav30]
              clear zhav30
              generalize (zw29.alloc (.cells #[] 37)) = zw30 at *
              refine wpAnyH_ready (rs := [4]) (by kernel_rfl) (by simp) ?_
              refine AllReadyH.cons rfl (fun K hK => ?_) (AllReadyH.nil)
              rw [if_pos (by kernel_rfl)]
              refine wp_append_at _ _ 25 rfl v4.heap.size 37 i0 (lgV ⟨0, 0, 0, 0, 0, 0⟩) 6 48 Try.underlying25 hi hz0 hz1 hz3 rfl (by omega) _ _ _ rfl zO30 ⟨b, u, none⟩ k c (ccells (l.take k)) rfl (by rw [ccells_length, List.length_take]; congr 1; omega) (fun j v hv => (hsrc1 _ (zK30)) j v hv) (ccells_one _) (by unfold maxLen; omega) (by omega) (by have h3 := (zK30).size; omega) ?_
              intro zv31 zw31 zO31 zG31 zhl31
              have zK31 := (zK30).grown zG31 (zK30).size (fun j hj => (zO30.lt j hj).1)
              have zq31 : zw31.heap[zad29]? = some (.cells #[.int .i64 x.dv, .int .i64 x.no, .int .i64 x.tk, .int .i64 x.tr, .int .i64 x.dy, .int .i64 x.sa] 37) := by rw [zG31.block zad29 (lt_of zq30) (fun h => zhn30 h.symm)]; exact zq30
              have zhn31 : zv31.ownBlock ≠ some zad29 := by
                rcases zhl31 with h | h
                · rw [h]; exact zhn30
                · rw [h]; intro h2; have := lt_of zq30; simp at h2; omega
              rw [Nat.zero_add, List.nil_append] at zO31
              clear zG31 zhl31
              refine hK.out _ _ ?_ (fun hHeld2 => ?_)
              · exact HT6.out _ (zK31)
              clear hK K hHeld
              have hHeld := hHeld2
              clear hHeld2
              refine wpAnyH_ready (rs := [7]) (by kernel_rfl) (by simp) ?_
              refine AllReadyH.cons rfl (fun K hK => ?_) (AllReadyH.nil)
              rw [if_pos (by kernel_rfl)]
              refine wp_append_at _ _ 25 rfl v4.heap.size 37 i0 (lgV ⟨0, 0, 0, 0, 0, 0⟩) 6 48 Try.underlying25 hi hz0 hz1 hz3 rfl (by omega) _ _ _ rfl zO31 ⟨zad29, 0, none⟩ 1 1 (cc1 x) rfl rfl (six_of zq31) (cc1_ones x) (by unfold maxLen; omega) (by omega) (by have h3 := (zK31).size; omega) ?_
              intro zv32 zw32 zO32 zG32 zhl32
              have zK32 := (zK31).grown zG32 (zK31).size (fun j hj => (zO31.lt j hj).1)
              clear zG32 zhl32
              refine hK.out _ _ ?_ (fun hHeld2 => ?_)
              · exact HT6.out _ (zK32)
              clear hK K hHeld
              have hHeld := hHeld2
              clear hHeld2
              refine wpAnyH_ready (rs := [11]) (by kernel_rfl) (by simp) ?_
              refine AllReadyH.cons rfl (fun K hK => ?_) (AllReadyH.nil)
              rw [if_pos (by kernel_rfl)]
              refine wp_append_at _ _ 25 rfl v4.heap.size 37 i0 (lgV ⟨0, 0, 0, 0, 0, 0⟩) 6 48 Try.underlying25 hi hz0 hz1 hz3 rfl (by omega) _ _ _ rfl zO32 ⟨b, u2, none⟩ (l.length - k) (c - k) (ccells (l.drop k)) rfl (by rw [ccells_length, List.length_drop]) (fun j v hv => (hsrc2 _ (zK32)) j v hv) (ccells_one _) (by unfold maxLen; omega) (by omega) (by have h3 := (zK32).size; omega) ?_
              intro zv33 zw33 zO33 zG33 zhl33
              have zK33 := (zK32).grown zG33 (zK32).size (fun j hj => (zO32.lt j hj).1)
              clear zG33 zhl33
              refine hK.out _ _ ?_ (fun hHeld2 => ?_)
              · exact HT6.out _ (zK33)
              clear hK K hHeld
              have hHeld := hHeld2
              clear hHeld2
              refine wpAnyH_ready (rs := [12]) (by kernel_rfl) (by simp) ?_
              refine AllReadyH.cons rfl (fun K hK => ?_) (AllReadyH.nil)
              go_simp
              refine hK.out _ _ ?_ (fun hHeld2 => ?_)
              · exact HT6.out _ (zK33)
              clear hK K hHeld
              have hHeld := hHeld2
              clear hHeld2
              refine wpAnyH_done (by kernel_rfl) ?_ _
              obtain ⟨g, c', hv, hcc, hO⟩ := HEQ.out _ _ zO33
              subst hv
              have LQ := N0.trans ((LF.trans ((zK33).mono LF.size)).mono N0.size)
              go_wp2
              go_ret
              exact ⟨_, rfl, Or.inr ⟨g, c', rfl, hcc, hO⟩, LQ⟩
      · rw [hx] at HB1
        have HN : Hid (posC x (l.drop (k + 1)) + (k + 1) = posC x l) := HST.out hx
        clear hx HSP HST HHA0 HXP
        go_wp2
        refine wp_region_held_drew (S := (fun w' => w'.cell? ⟨b, u + k * 6, none⟩ = some (.int .i64 p.dv) ∧ w'.cell? ⟨b, u + k * 6 + 1, none⟩ = some (.int .i64 p.no) ∧ w'.cell? ⟨b, u + k * 6 + 2, none⟩ = some (.int .i64 p.tk) ∧ w'.cell? ⟨b, u + k * 6 + 3, none⟩ = some (.int .i64 p.tr) ∧ w'.cell? ⟨b, u + k * 6 + 4, none⟩ = some (.int .i64 p.dy) ∧ w'.cell? ⟨b, u + k * 6 + 5, none⟩ = some (.int .i64 p.sa) ∧ w'.cell? ⟨w.heap.size, 0, none⟩ = some (.int .i64 x.dv) ∧ w'.cell? ⟨w.heap.size, 1, none⟩ = some (.int .i64 x.no) ∧ w'.cell? ⟨w.heap.size, 2, none⟩ = some (.int .i64 x.tk) ∧ w'.cell? ⟨w.heap.size, 3, none⟩ = some (.int .i64 x.tr) ∧ w'.cell? ⟨w.heap.size, 4, none⟩ = some (.int .i64 x.dy) ∧ w'.cell? ⟨w.heap.size, 5, none⟩ = some (.int .i64 x.sa))) (by kernel_rfl) ?_ (fun hHeld => ?_)
        · exact HS.out _ (Below.refl _ _).drew
        refine wpAnyH_take (i := 0) (v := .int .i64 k) rfl (by kernel_rfl) (by kernel_rfl) (by kernel_rfl) (fun _ _ _ h => h) (Or.inl ⟨by kernel_rfl, fun w hSw => by first | (go_simp; done) | (dsimp only at hSw; obtain ⟨s0, s1, s2, s3, s4, s5, s6, s7, s8, s9, s10, s11⟩ := hSw; go_simp; done) | rfl⟩) (by assumption) ?_
        simp only [Act.put, List.getElem_toArray, List.getElem_cons_succ, List.getElem_cons_zero, List.setIfInBounds_toArray, List.set_cons_succ, List.set_cons_zero]
        refine wpAnyH_take (i := 1) (v := .slice (some ⟨b, u, none⟩) l.length c) rfl (by kernel_rfl) (by kernel_rfl) (by kernel_rfl) (fun _ _ _ h => h) (Or.inl ⟨by kernel_rfl, fun w hSw => by first | (go_simp; done) | (dsimp only at hSw; obtain ⟨s0, s1, s2, s3, s4, s5, s6, s7, s8, s9, s10, s11⟩ := hSw; go_simp; done) | rfl⟩) (by assumption) ?_
        simp only [Act.put, List.getElem_toArray, List.getElem_cons_succ, List.getElem_cons_zero, List.setIfInBounds_toArray, List.set_cons_succ, List.set_cons_zero]
        refine wpAnyH_take (i := 2) (v := .int .i64 l.length) rfl (by kernel_rfl) (by kernel_rfl) (by kernel_rfl) (fun _ _ _ h => h) (Or.inl ⟨by kernel_rfl, fun w hSw => by first | (go_simp; done) | (dsimp only at hSw; obtain ⟨s0, s1, s2, s3, s4, s5, s6, s7, s8, s9, s10, s11⟩ := hSw; go_simp; done) | rfl⟩) (by assumption) ?_
        simp only [Act.put, List.getElem_toArray, List.getElem_cons_succ, List.getElem_cons_zero, List.setIfInBounds_toArray, List.set_cons_succ, List.set_cons_zero]
        refine wpAnyH_take (i := 3) (v := .bool true) rfl (by kernel_rfl) (by kernel_rfl) (by kernel_rfl) (fun _ _ _ h => h) (Or.inl ⟨by kernel_rfl, fun w hSw => by first | (go_simp; done) | (dsimp only at hSw; obtain ⟨s0, s1, s2, s3, s4, s5, s6, s7, s8, s9, s10, s11⟩ := hSw; go_simp; done) | rfl⟩) (by assumption) ?_
        simp only [Act.put, List.getElem_toArray, List.getElem_cons_succ, List.getElem_cons_zero, List.setIfInBounds_toArray, List.set_cons_succ, List.set_cons_zero]
        refine wpAnyH_take (i := 4) (v := .bool true) rfl (by kernel_rfl) (by kernel_rfl) (by kernel_rfl) (fun _ _ _ h => h) (Or.inl ⟨by kernel_rfl, fun w hSw => by first | (go_simp; done) | (dsimp only at hSw; obtain ⟨s0, s1, s2, s3, s4, s5, s6, s7, s8, s9, s10, s11⟩ := hSw; go_simp; done) | rfl⟩) (by assumption) ?_
        simp only [Act.put, List.getElem_toArray, List.getElem_cons_succ, List.getElem_cons_zero, List.setIfInBounds_toArray, List.set_cons_succ, List.set_cons_zero]
        refine wpAnyH_take (i := 5) (v := .slice (some ⟨b, u, none⟩) l.length c) rfl (by kernel_rfl) (by kernel_rfl) (by kernel_rfl) (fun _ _ _ h => h) (Or.inl ⟨by kernel_rfl, fun w hSw => by first | (go_simp; done) | (dsimp only at hSw; obtain ⟨s0, s1, s2, s3, s4, s5, s6, s7, s8, s9, s10, s11⟩ := hSw; go_simp; done) | rfl⟩) (by assumption) ?_
        simp only [Act.put, List.getElem_toArray, List.getElem_cons_succ, List.getElem_cons_zero, List.setIfInBounds_toArray, List.set_cons_succ, List.set_cons_zero]
        refine wpAnyH_take (i := 6) (v := .int .i64 k) rfl (by kernel_rfl) (by kernel_rfl) (by kernel_rfl) (fun _ _ _ h => h) (Or.inl ⟨by kernel_rfl, fun w hSw => by first | (go_simp; done) | (dsimp only at hSw; obtain ⟨s0, s1, s2, s3, s4, s5, s6, s7, s8, s9, s10, s11⟩ := hSw; go_simp; done) | rfl⟩) (by assumption) ?_
        simp only [Act.put, List.getElem_toArray, List.getElem_cons_succ, List.getElem_cons_zero, List.setIfInBounds_toArray, List.set_cons_succ, List.set_cons_zero]
        refine wpAnyH_take (i := 7) (v := .pointer (some ⟨b, u + k * 6, none⟩)) rfl (by kernel_rfl) (by kernel_rfl) (by kernel_rfl) (fun _ _ _ h => h) (Or.inl ⟨by kernel_rfl, fun w hSw => by first | (go_simp; done) | (dsimp only at hSw; obtain ⟨s0, s1, s2, s3, s4, s5, s6, s7, s8, s9, s10, s11⟩ := hSw; go_simp; done) | rfl⟩) (by assumption) ?_
        simp only [Act.put, List.getElem_toArray, List.getElem_cons_succ, List.getElem_cons_zero, List.setIfInBounds_toArray, List.set_cons_succ, List.set_cons_zero]
        refine wpAnyH_take (i := 8) (v := lgV p) rfl (by kernel_rfl) (by kernel_rfl) (by kernel_rfl) (fun _ _ _ h => h) (Or.inl ⟨by kernel_rfl, fun w hSw => by first | (go_simp; done) | (dsimp only at hSw; obtain ⟨s0, s1, s2, s3, s4, s5, s6, s7, s8, s9, s10, s11⟩ := hSw; go_simp; done) | rfl⟩) (by assumption) ?_
        simp only [Act.put, List.getElem_toArray, List.getElem_cons_succ, List.getElem_cons_zero, List.setIfInBounds_toArray, List.set_cons_succ, List.set_cons_zero]
        refine wpAnyH_take (i := 9) (v := lgV x) rfl (by kernel_rfl) (by kernel_rfl) (by kernel_rfl) (fun _ _ _ h => h) (Or.inl ⟨by kernel_rfl, fun w hSw => by first | (go_simp; done) | (dsimp only at hSw; obtain ⟨s0, s1, s2, s3, s4, s5, s6, s7, s8, s9, s10, s11⟩ := hSw; go_simp; done) | rfl⟩) (by assumption) ?_
        simp only [Act.put, List.getElem_toArray, List.getElem_cons_succ, List.getElem_cons_zero, List.setIfInBounds_toArray, List.set_cons_succ, List.set_cons_zero]
        refine wpAnyH_ready (rs := [10]) (by kernel_rfl) (by simp) ?_
        refine AllReadyH.cons rfl (fun K hK => ?_) AllReadyH.nil
        go_simp
        go_wp2_with ((go_at_call 41; (with_reducible refine (HB1.out _).mono ?_); rintro e v2 ⟨rfl, Lv2⟩; have Kv2 := (Below.refl wr.heap.size wr).drew.trans Lv2))
        refine hK.out _ _ ?_ (fun hHeld2 => ?_)
        · exact HS.out _ Kv2
        clear hK K hHeld
        have hHeld := hHeld2
        clear hHeld2
        refine wpAnyH_take (i := 11) (v := .bool true) rfl (by kernel_rfl) (by kernel_rfl) (by kernel_rfl) (fun _ _ _ h => h) (Or.inl ⟨by kernel_rfl, fun w hSw => by first | (go_simp; done) | (dsimp only at hSw; obtain ⟨s0, s1, s2, s3, s4, s5, s6, s7, s8, s9, s10, s11⟩ := hSw; go_simp; done) | rfl⟩) (by assumption) ?_
        simp only [Act.put, List.getElem_toArray, List.getElem_cons_succ, List.getElem_cons_zero, List.setIfInBounds_toArray, List.set_cons_succ, List.set_cons_zero]
        refine wpAnyH_done (by kernel_rfl) ?_ _
        have LV := LR.trans (Kv2.mono LR.size)
        go_wp2
        go_roundw
        case rel => exact ⟨k + 1, by omega, by go_num, LV, HN⟩
        case measure => simp [intOf]; omega
    · have HKP : Hid (posC x l = k) := by
        show _ = _
        obtain rfl : k = l.length := by omega
        rw [← HP.out, posC_end]
        omega
      have HHA : Hid (hasC x l = false) := hasC_end (by rw [HKP.out]; omega)
      have HS6 : Hid (∀ W, Below wr.heap.size wr W → W.cell? ⟨w.heap.size, 0, none⟩ = some (.int .i64 x.dv) ∧ W.cell? ⟨w.heap.size, 1, none⟩ = some (.int .i64 x.no) ∧ W.cell? ⟨w.heap.size, 2, none⟩ = some (.int .i64 x.tk) ∧ W.cell? ⟨w.heap.size, 3, none⟩ = some (.int .i64 x.tr) ∧ W.cell? ⟨w.heap.size, 4, none⟩ = some (.int .i64 x.dy) ∧ W.cell? ⟨w.heap.size, 5, none⟩ = some (.int .i64 x.sa)) := fun W q => HX6.out W (LR.trans (q.mono LR.size))
      have d1 : decide (k < l.length) = false := decide_eq_false hkn
      have hkj : ¬ (k : Int) < (l.length : Int) := by omega
      clear HP
      go_wp2
      refine wp_region_held_drew (S := (fun w' => w'.cell? ⟨w.heap.size, 0, none⟩ = some (.int .i64 x.dv) ∧ w'.cell? ⟨w.heap.size, 1, none⟩ = some (.int .i64 x.no) ∧ w'.cell? ⟨w.heap.size, 2, none⟩ = some (.int .i64 x.tk) ∧ w'.cell? ⟨w.heap.size, 3, none⟩ = some (.int .i64 x.tr) ∧ w'.cell? ⟨w.heap.size, 4, none⟩ = some (.int .i64 x.dy) ∧ w'.cell? ⟨w.heap.size, 5, none⟩ = some (.int .i64 x.sa))) (by kernel_rfl) ?_ (fun hHeld => ?_)
      · exact HS6.out _ (Below.refl _ _).drew
      refine wpAnyH_take (i := 0) (v := .int .i64 k) rfl (by kernel_rfl) (by kernel_rfl) (by kernel_rfl) (fun _ _ _ h => h) (Or.inl ⟨by kernel_rfl, fun w hSw => by first | (go_simp; done) | (dsimp only at hSw; obtain ⟨s0, s1, s2, s3, s4, s5⟩ := hSw; go_simp; done) | rfl⟩) (by assumption) ?_
      simp only [Act.put, List.getElem_toArray, List.getElem_cons_succ, List.getElem_cons_zero, List.setIfInBounds_toArray, List.set_cons_succ, List.set_cons_zero]
      refine wpAnyH_take (i := 1) (v := .slice (some ⟨b, u, none⟩) l.length c) rfl (by kernel_rfl) (by kernel_rfl) (by kernel_rfl) (fun _ _ _ h => h) (Or.inl ⟨by kernel_rfl, fun w hSw => by first | (go_simp; done) | (dsimp only at hSw; obtain ⟨s0, s1, s2, s3, s4, s5⟩ := hSw; go_simp; done) | rfl⟩) (by assumption) ?_
      simp only [Act.put, List.getElem_toArray, List.getElem_cons_succ, List.getElem_cons_zero, List.setIfInBounds_toArray, List.set_cons_succ, List.set_cons_zero]
      refine wpAnyH_take (i := 2) (v := .int .i64 l.length) rfl (by kernel_rfl) (by kernel_rfl) (by kernel_rfl) (fun _ _ _ h => h) (Or.inl ⟨by kernel_rfl, fun w hSw => by first | (go_simp; done) | (dsimp only at hSw; obtain ⟨s0, s1, s2, s3, s4, s5⟩ := hSw; go_simp; done) | rfl⟩) (by assumption) ?_
      simp only [Act.put, List.getElem_toArray, List.getElem_cons_succ, List.getElem_cons_zero, List.setIfInBounds_toArray, List.set_cons_succ, List.set_cons_zero]
      refine wpAnyH_take (i := 3) (v := .bool false) rfl (by kernel_rfl) (by kernel_rfl) (by kernel_rfl) (fun _ _ _ h => h) (Or.inl ⟨by kernel_rfl, fun w hSw => by first | (go_simp; done) | (dsimp only at hSw; obtain ⟨s0, s1, s2, s3, s4, s5⟩ := hSw; go_simp; done) | rfl⟩) (by assumption) ?_
      simp only [Act.put, List.getElem_toArray, List.getElem_cons_succ, List.getElem_cons_zero, List.setIfInBounds_toArray, List.set_cons_succ, List.set_cons_zero]
      refine wpAnyH_take (i := 4) (v := .bool false) rfl (by kernel_rfl) (by kernel_rfl) (by kernel_rfl) (fun _ _ _ h => h) (Or.inl ⟨by kernel_rfl, fun w hSw => by first | (go_simp; done) | (dsimp only at hSw; obtain ⟨s0, s1, s2, s3, s4, s5⟩ := hSw; go_simp; done) | rfl⟩) (by assumption) ?_
      simp only [Act.put, List.getElem_toArray, List.getElem_cons_succ, List.getElem_cons_zero, List.setIfInBounds_toArray, List.set_cons_succ, List.set_cons_zero]
      refine wpAnyH_take (i := 5) (v := undef) rfl (by kernel_rfl) (by kernel_rfl) (by kernel_rfl) (fun _ _ _ h => h) (Or.inr ⟨by kernel_rfl, rfl⟩) (by assumption) ?_
      simp only [Act.put, List.getElem_toArray, List.getElem_cons_succ, List.getElem_cons_zero, List.setIfInBounds_toArray, List.set_cons_succ, List.set_cons_zero]
      refine wpAnyH_take (i := 6) (v := undef) rfl (by kernel_rfl) (by kernel_rfl) (by kernel_rfl) (fun _ _ _ h => h) (Or.inr ⟨by kernel_rfl, rfl⟩) (by assumption) ?_
      simp only [Act.put, List.getElem_toArray, List.getElem_cons_succ, List.getElem_cons_zero, List.setIfInBounds_toArray, List.set_cons_succ, List.set_cons_zero]
      refine wpAnyH_take (i := 7) (v := undef) rfl (by kernel_rfl) (by kernel_rfl) (by kernel_rfl) (fun _ _ _ h => h) (Or.inr ⟨by kernel_rfl, rfl⟩) (by assumption) ?_
      simp only [Act.put, List.getElem_toArray, List.getElem_cons_succ, List.getElem_cons_zero, List.setIfInBounds_toArray, List.set_cons_succ, List.set_cons_zero]
      refine wpAnyH_take (i := 8) (v := undef) rfl (by kernel_rfl) (by kernel_rfl) (by kernel_rfl) (fun _ _ _ h => h) (Or.inr ⟨by kernel_rfl, rfl⟩) (by assumption) ?_
      simp only [Act.put, List.getElem_toArray, List.getElem_cons_succ, List.getElem_cons_zero, List.setIfInBounds_toArray, List.set_cons_succ, List.set_cons_zero]
      refine wpAnyH_take (i := 9) (v := undef) rfl (by kernel_rfl) (by kernel_rfl) (by kernel_rfl) (fun _ _ _ h => h) (Or.inr ⟨by kernel_rfl, rfl⟩) (by assumption) ?_
      simp only [Act.put, List.getElem_toArray, List.getElem_cons_succ, List.getElem_cons_zero, List.setIfInBounds_toArray, List.set_cons_succ, List.set_cons_zero]
      refine wpAnyH_take (i := 10) (v := undef) rfl (by kernel_rfl) (by kernel_rfl) (by kernel_rfl) (fun _ _ _ h => h) (Or.inr ⟨by kernel_rfl, rfl⟩) (by assumption) ?_
      simp only [Act.put, List.getElem_toArray, List.getElem_cons_succ, List.getElem_cons_zero, List.setIfInBounds_toArray, List.set_cons_succ, List.set_cons_zero]
      refine wpAnyH_take (i := 11) (v := .bool false) rfl (by kernel_rfl) (by kernel_rfl) (by kernel_rfl) (fun _ _ _ h => h) (Or.inl ⟨by kernel_rfl, fun w hSw => by first | (go_simp; done) | (dsimp only at hSw; obtain ⟨s0, s1, s2, s3, s4, s5⟩ := hSw; go_simp; done) | rfl⟩) (by assumption) ?_
      simp only [Act.put, List.getElem_toArray, List.getElem_cons_succ, List.getElem_cons_zero, List.setIfInBounds_toArray, List.set_cons_succ, List.set_cons_zero]
      refine wpAnyH_done (by kernel_rfl) ?_ _
      have LV := LR.drew
      clear HS6
      generalize World.drew wr = v2 at *
      have HT6 : Hid (∀ W, Below v2.heap.size v2 W → W.cell? ⟨w.heap.size, 0, none⟩ = some (.int .i64 x.dv) ∧ W.cell? ⟨w.heap.size, 1, none⟩ = some (.int .i64 x.no) ∧ W.cell? ⟨w.heap.size, 2, none⟩ = some (.int .i64 x.tk) ∧ W.cell? ⟨w.heap.size, 3, none⟩ = some (.int .i64 x.tr) ∧ W.cell? ⟨w.heap.size, 4, none⟩ = some (.int .i64 x.dy) ∧ W.cell? ⟨w.heap.size, 5, none⟩ = some (.int .i64 x.sa)) := fun W q => HX6.out W (LV.trans (q.mono LV.size))
      by_cases hf : 600 ≤ l.length
      · have HSAME : Hid (putC l x = l) := by
          show _ = _
          unfold putC
          rw [if_pos (Or.inr hf)]
        have d6 : decide ((600 : Int) ≤ (l.length : Int)) = true := decide_eq_true (by omega)
        go_wp2
        refine wp_region_held_drew (S := (fun w' => w'.cell? ⟨w.heap.size, 0, none⟩ = some (.int .i64 x.dv) ∧ w'.cell? ⟨w.heap.size, 1, none⟩ = some (.int .i64 x.no) ∧ w'.cell? ⟨w.heap.size, 2, none⟩ = some (.int .i64 x.tk) ∧ w'.cell? ⟨w.heap.size, 3, none⟩ = some (.int .i64 x.tr) ∧ w'.cell? ⟨w.heap.size, 4, none⟩ = some (.int .i64 x.dy) ∧ w'.cell? ⟨w.heap.size, 5, none⟩ = some (.int .i64 x.sa))) (by kernel_rfl) ?_ (fun hHeld => ?_)
        · exact HT6.out _ ((Below.refl v2.heap.size v2).drew)
        refine wpAnyH_take (i := 0) (v := .int .i64 k) rfl (by kernel_rfl) (by kernel_rfl) (by kernel_rfl) (fun _ _ _ h => h) (Or.inl ⟨by kernel_rfl, fun w hSw => by first | (go_simp; done) | (dsimp only at hSw; obtain ⟨s0, s1, s2, s3, s4, s5⟩ := hSw; go_simp; done) | rfl⟩) (by assumption) ?_
        simp only [Act.put, List.getElem_toArray, List.getElem_cons_succ, List.getElem_cons_zero, List.setIfInBounds_toArray, List.set_cons_succ, List.set_cons_zero]
        refine wpAnyH_take (i := 1) (v := .slice (some ⟨b, u, none⟩) l.length c) rfl (by kernel_rfl) (by kernel_rfl) (by kernel_rfl) (fun _ _ _ h => h) (Or.inl ⟨by kernel_rfl, fun w hSw => by first | (go_simp; done) | (dsimp only at hSw; obtain ⟨s0, s1, s2, s3, s4, s5⟩ := hSw; go_simp; done) | rfl⟩) (by assumption) ?_
        simp only [Act.put, List.getElem_toArray, List.getElem_cons_succ, List.getElem_cons_zero, List.setIfInBounds_toArray, List.set_cons_succ, List.set_cons_zero]
        refine wpAnyH_take (i := 2) (v := .int .i64 l.length) rfl (by kernel_rfl) (by kernel_rfl) (by kernel_rfl) (fun _ _ _ h => h) (Or.inl ⟨by kernel_rfl, fun w hSw => by first | (go_simp; done) | (dsimp only at hSw; obtain ⟨s0, s1, s2, s3, s4, s5⟩ := hSw; go_simp; done) | rfl⟩) (by assumption) ?_
        simp only [Act.put, List.getElem_toArray, List.getElem_cons_succ, List.getElem_cons_zero, List.setIfInBounds_toArray, List.set_cons_succ, List.set_cons_zero]
        refine wpAnyH_take (i := 3) (v := .bool false) rfl (by kernel_rfl) (by kernel_rfl) (by kernel_rfl) (fun _ _ _ h => h) (Or.inl ⟨by kernel_rfl, fun w hSw => by first | (go_simp; done) | (dsimp only at hSw; obtain ⟨s0, s1, s2, s3, s4, s5⟩ := hSw; go_simp; done) | rfl⟩) (by assumption) ?_
        simp only [Act.put, List.getElem_toArray, List.getElem_cons_succ, List.getElem_cons_zero, List.setIfInBounds_toArray, List.set_cons_succ, List.set_cons_zero]
        refine wpAnyH_take (i := 4) (v := .bool false) rfl (by kernel_rfl) (by kernel_rfl) (by kernel_rfl) (fun _ _ _ h => h) (Or.inl ⟨by kernel_rfl, fun w hSw => by first | (go_simp; done) | (dsimp only at hSw; obtain ⟨s0, s1, s2, s3, s4, s5⟩ := hSw; go_simp; done) | rfl⟩) (by assumption) ?_
        simp only [Act.put, List.getElem_toArray, List.getElem_cons_succ, List.getElem_cons_zero, List.setIfInBounds_toArray, List.set_cons_succ, List.set_cons_zero]
        refine wpAnyH_take (i := 5) (v := undef) rfl (by kernel_rfl) (by kernel_rfl) (by kernel_rfl) (fun _ _ _ h => h) (Or.inr ⟨by kernel_rfl, rfl⟩) (by assumption) ?_
        simp only [Act.put, List.getElem_toArray, List.getElem_cons_succ, List.getElem_cons_zero, List.setIfInBounds_toArray, List.set_cons_succ, List.set_cons_zero]
        refine wpAnyH_take (i := 6) (v := undef) rfl (by kernel_rfl) (by kernel_rfl) (by kernel_rfl) (fun _ _ _ h => h) (Or.inr ⟨by kernel_rfl, rfl⟩) (by assumption) ?_
        simp only [Act.put, List.getElem_toArray, List.getElem_cons_succ, List.getElem_cons_zero, List.setIfInBounds_toArray, List.set_cons_succ, List.set_cons_zero]
        refine wpAnyH_take (i := 7) (v := undef) rfl (by kernel_rfl) (by kernel_rfl) (by kernel_rfl) (fun _ _ _ h => h) (Or.inr ⟨by kernel_rfl, rfl⟩) (by assumption) ?_
        simp only [Act.put, List.getElem_toArray, List.getElem_cons_succ, List.getElem_cons_zero, List.setIfInBounds_toArray, List.set_cons_succ, List.set_cons_zero]
        refine wpAnyH_take (i := 8) (v := undef) rfl (by kernel_rfl) (by kernel_rfl) (by kernel_rfl) (fun _ _ _ h => h) (Or.inr ⟨by kernel_rfl, rfl⟩) (by assumption) ?_
        simp only [Act.put, List.getElem_toArray, List.getElem_cons_succ, List.getElem_cons_zero, List.setIfInBounds_toArray, List.set_cons_succ, List.set_cons_zero]
        refine wpAnyH_take (i := 9) (v := undef) rfl (by kernel_rfl) (by kernel_rfl) (by kernel_rfl) (fun _ _ _ h => h) (Or.inr ⟨by kernel_rfl, rfl⟩) (by assumption) ?_
        simp only [Act.put, List.getElem_toArray, List.getElem_cons_succ, List.getElem_cons_zero, List.setIfInBounds_toArray, List.set_cons_succ, List.set_cons_zero]
        refine wpAnyH_take (i := 10) (v := undef) rfl (by kernel_rfl) (by kernel_rfl) (by kernel_rfl) (fun _ _ _ h => h) (Or.inr ⟨by kernel_rfl, rfl⟩) (by assumption) ?_
        simp only [Act.put, List.getElem_toArray, List.getElem_cons_succ, List.getElem_cons_zero, List.setIfInBounds_toArray, List.set_cons_succ, List.set_cons_zero]
        refine wpAnyH_take (i := 11) (v := undef) rfl (by kernel_rfl) (by kernel_rfl) (by kernel_rfl) (fun _ _ _ h => h) (Or.inr ⟨by kernel_rfl, rfl⟩) (by assumption) ?_
        simp only [Act.put, List.getElem_toArray, List.getElem_cons_succ, List.getElem_cons_zero, List.setIfInBounds_toArray, List.set_cons_succ, List.set_cons_zero]
        refine wpAnyH_take (i := 12) (v := .bool false) rfl (by kernel_rfl) (by kernel_rfl) (by kernel_rfl) (fun _ _ _ h => h) (Or.inl ⟨by kernel_rfl, fun w hSw => by first | (go_simp; done) | (dsimp only at hSw; obtain ⟨s0, s1, s2, s3, s4, s5⟩ := hSw; go_simp; done) | rfl⟩) (by assumption) ?_
        simp only [Act.put, List.getElem_toArray, List.getElem_cons_succ, List.getElem_cons_zero, List.setIfInBounds_toArray, List.set_cons_succ, List.set_cons_zero]
        refine wpAnyH_take (i := 13) (v := .bool false) rfl (by kernel_rfl) (by kernel_rfl) (by kernel_rfl) (fun _ _ _ h => h) (Or.inl ⟨by kernel_rfl, fun w hSw => by first | (go_simp; done) | (dsimp only at hSw; obtain ⟨s0, s1, s2, s3, s4, s5⟩ := hSw; go_simp; done) | rfl⟩) (by assumption) ?_
        simp only [Act.put, List.getElem_toArray, List.getElem_cons_succ, List.getElem_cons_zero, List.setIfInBounds_toArray, List.set_cons_succ, List.set_cons_zero]
        refine wpAnyH_take (i := 14) (v := .slice (some ⟨b, u, none⟩) l.length c) rfl (by kernel_rfl) (by kernel_rfl) (by kernel_rfl) (fun _ _ _ h => h) (Or.inl ⟨by kernel_rfl, fun w hSw => by first | (go_simp; done) | (dsimp only at hSw; obtain ⟨s0, s1, s2, s3, s4, s5⟩ := hSw; go_simp; done) | rfl⟩) (by assumption) ?_
        simp only [Act.put, List.getElem_toArray, List.getElem_cons_succ, List.getElem_cons_zero, List.setIfInBounds_toArray, List.set_cons_succ, List.set_cons_zero]
        refine wpAnyH_take (i := 15) (v := .int .i64 l.length) rfl (by kernel_rfl) (by kernel_rfl) (by kernel_rfl) (fun _ _ _ h => h) (Or.inl ⟨by kernel_rfl, fun w hSw => by first | (go_simp; done) | (dsimp only at hSw; obtain ⟨s0, s1, s2, s3, s4, s5⟩ := hSw; go_simp; done) | rfl⟩) (by assumption) ?_
        simp only [Act.put, List.getElem_toArray, List.getElem_cons_succ, List.getElem_cons_zero, List.setIfInBounds_toArray, List.set_cons_succ, List.set_cons_zero]
        refine wpAnyH_take (i := 16) (v := .bool true) rfl (by kernel_rfl) (by kernel_rfl) (by kernel_rfl) (fun _ _ _ h => h) (Or.inl ⟨by kernel_rfl, fun w hSw => by first | (go_simp; done) | (dsimp only at hSw; obtain ⟨s0, s1, s2, s3, s4, s5⟩ := hSw; go_simp; done) | rfl⟩) (by assumption) ?_
        simp only [Act.put, List.getElem_toArray, List.getElem_cons_succ, List.getElem_cons_zero, List.setIfInBounds_toArray, List.set_cons_succ, List.set_cons_zero]
        refine wpAnyH_take (i := 17) (v := .bool true) rfl (by kernel_rfl) (by kernel_rfl) (by kernel_rfl) (fun _ _ _ h => h) (Or.inl ⟨by kernel_rfl, fun w hSw => by first | (go_simp; done) | (dsimp only at hSw; obtain ⟨s0, s1, s2, s3, s4, s5⟩ := hSw; go_simp; done) | rfl⟩) (by assumption) ?_
        simp only [Act.put, List.getElem_toArray, List.getElem_cons_succ, List.getElem_cons_zero, List.setIfInBounds_toArray, List.set_cons_succ, List.set_cons_zero]
        refine wpAnyH_done (by kernel_rfl) ?_ _
        have LF := LV.drew
        generalize World.drew v2 = v4 at *
        have LQ := N0.trans (LF.mono N0.size)
        go_wp2
        go_ret
        exact ⟨_, rfl, Or.inl ⟨HSAME.out, rfl⟩, LQ⟩
      · have HPUT : Hid (putC l x = insC x l) := by
          show _ = _
          unfold putC
          rw [if_neg (by rw [HHA.out]; simp; omega)]
        have d6 : decide ((600 : Int) ≤ (l.length : Int)) = false := decide_eq_false (by omega)
        go_wp2
        refine wp_region_held_drew (S := (fun w' => w'.cell? ⟨w.heap.size, 0, none⟩ = some (.int .i64 x.dv) ∧ w'.cell? ⟨w.heap.size, 1, none⟩ = some (.int .i64 x.no) ∧ w'.cell? ⟨w.heap.size, 2, none⟩ = some (.int .i64 x.tk) ∧ w'.cell? ⟨w.heap.size, 3, none⟩ = some (.int .i64 x.tr) ∧ w'.cell? ⟨w.heap.size, 4, none⟩ = some (.int .i64 x.dy) ∧ w'.cell? ⟨w.heap.size, 5, none⟩ = some (.int .i64 x.sa))) (by kernel_rfl) ?_ (fun hHeld => ?_)
        · exact HT6.out _ ((Below.refl v2.heap.size v2).drew)
        refine wpAnyH_take (i := 0) (v := .int .i64 k) rfl (by kernel_rfl) (by kernel_rfl) (by kernel_rfl) (fun _ _ _ h => h) (Or.inl ⟨by kernel_rfl, fun w hSw => by first | (go_simp; done) | (dsimp only at hSw; obtain ⟨s0, s1, s2, s3, s4, s5⟩ := hSw; go_simp; done) | rfl⟩) (by assumption) ?_
        simp only [Act.put, List.getElem_toArray, List.getElem_cons_succ, List.getElem_cons_zero, List.setIfInBounds_toArray, List.set_cons_succ, List.set_cons_zero]
        refine wpAnyH_take (i := 1) (v := .slice (some ⟨b, u, none⟩) l.length c) rfl (by kernel_rfl) (by kernel_rfl) (by kernel_rfl) (fun _ _ _ h => h) (Or.inl ⟨by kernel_rfl, fun w hSw => by first | (go_simp; done) | (dsimp only at hSw; obtain ⟨s0, s1, s2, s3, s4, s5⟩ := hSw; go_simp; done) | rfl⟩) (by assumption) ?_
        simp only [Act.put, List.getElem_toArray, List.getElem_cons_succ, List.getElem_cons_zero, List.setIfInBounds_toArray, List.set_cons_succ, List.set_cons_zero]
        refine wpAnyH_take (i := 2) (v := .int .i64 l.length) rfl (by kernel_rfl) (by kernel_rfl) (by kernel_rfl) (fun _ _ _ h => h) (Or.inl ⟨by kernel_rfl, fun w hSw => by first | (go_simp; done) | (dsimp only at hSw; obtain ⟨s0, s1, s2, s3, s4, s5⟩ := hSw; go_simp; done) | rfl⟩) (by assumption) ?_
        simp only [Act.put, List.getElem_toArray, List.getElem_cons_succ, List.getElem_cons_zero, List.setIfInBounds_toArray, List.set_cons_succ, List.set_cons_zero]
        refine wpAnyH_take (i := 3) (v := .bool false) rfl (by kernel_rfl) (by kernel_rfl) (by kernel_rfl) (fun _ _ _ h => h) (Or.inl ⟨by kernel_rfl, fun w hSw => by first | (go_simp; done) | (dsimp only at hSw; obtain ⟨s0, s1, s2, s3, s4, s5⟩ := hSw; go_simp; done) | rfl⟩) (by assumption) ?_
        simp only [Act.put, List.getElem_toArray, List.getElem_cons_succ, List.getElem_cons_zero, List.setIfInBounds_toArray, List.set_cons_succ, List.set_cons_zero]
        refine wpAnyH_take (i := 4) (v := .bool false) rfl (by kernel_rfl) (by kernel_rfl) (by kernel_rfl) (fun _ _ _ h => h) (Or.inl ⟨by kernel_rfl, fun w hSw => by first | (go_simp; done) | (dsimp only at hSw; obtain ⟨s0, s1, s2, s3, s4, s5⟩ := hSw; go_simp; done) | rfl⟩) (by assumption) ?_
        simp only [Act.put, List.getElem_toArray, List.getElem_cons_succ, List.getElem_cons_zero, List.setIfInBounds_toArray, List.set_cons_succ, List.set_cons_zero]
        refine wpAnyH_take (i := 5) (v := undef) rfl (by kernel_rfl) (by kernel_rfl) (by kernel_rfl) (fun _ _ _ h => h) (Or.inr ⟨by kernel_rfl, rfl⟩) (by assumption) ?_
        simp only [Act.put, List.getElem_toArray, List.getElem_cons_succ, List.getElem_cons_zero, List.setIfInBounds_toArray, List.set_cons_succ, List.set_cons_zero]
        refine wpAnyH_take (i := 6) (v := undef) rfl (by kernel_rfl) (by kernel_rfl) (by kernel_rfl) (fun _ _ _ h => h) (Or.inr ⟨by kernel_rfl, rfl⟩) (by assumption) ?_
        simp only [Act.put, List.getElem_toArray, List.getElem_cons_succ, List.getElem_cons_zero, List.setIfInBounds_toArray, List.set_cons_succ, List.set_cons_zero]
        refine wpAnyH_take (i := 7) (v := undef) rfl (by kernel_rfl) (by kernel_rfl) (by kernel_rfl) (fun _ _ _ h => h) (Or.inr ⟨by kernel_rfl, rfl⟩) (by assumption) ?_
        simp only [Act.put, List.getElem_toArray, List.getElem_cons_succ, List.getElem_cons_zero, List.setIfInBounds_toArray, List.set_cons_succ, List.set_cons_zero]
        refine wpAnyH_take (i := 8) (v := undef) rfl (by kernel_rfl) (by kernel_rfl) (by kernel_rfl) (fun _ _ _ h => h) (Or.inr ⟨by kernel_rfl, rfl⟩) (by assumption) ?_
        simp only [Act.put, List.getElem_toArray, List.getElem_cons_succ, List.getElem_cons_zero, List.setIfInBounds_toArray, List.set_cons_succ, List.set_cons_zero]
        refine wpAnyH_take (i := 9) (v := undef) rfl (by kernel_rfl) (by kernel_rfl) (by kernel_rfl) (fun _ _ _ h => h) (Or.inr ⟨by kernel_rfl, rfl⟩) (by assumption) ?_
        simp only [Act.put, List.getElem_toArray, List.getElem_cons_succ, List.getElem_cons_zero, List.setIfInBounds_toArray, List.set_cons_succ, List.set_cons_zero]
        refine wpAnyH_take (i := 10) (v := undef) rfl (by kernel_rfl) (by kernel_rfl) (by kernel_rfl) (fun _ _ _ h => h) (Or.inr ⟨by kernel_rfl, rfl⟩) (by assumption) ?_
        simp only [Act.put, List.getElem_toArray, List.getElem_cons_succ, List.getElem_cons_zero, List.setIfInBounds_toArray, List.set_cons_succ, List.set_cons_zero]
        refine wpAnyH_take (i := 11) (v := undef) rfl (by kernel_rfl) (by kernel_rfl) (by kernel_rfl) (fun _ _ _ h => h) (Or.inr ⟨by kernel_rfl, rfl⟩) (by assumption) ?_
        simp only [Act.put, List.getElem_toArray, List.getElem_cons_succ, List.getElem_cons_zero, List.setIfInBounds_toArray, List.set_cons_succ, List.set_cons_zero]
        refine wpAnyH_take (i := 12) (v := .bool false) rfl (by kernel_rfl) (by kernel_rfl) (by kernel_rfl) (fun _ _ _ h => h) (Or.inl ⟨by kernel_rfl, fun w hSw => by first | (go_simp; done) | (dsimp only at hSw; obtain ⟨s0, s1, s2, s3, s4, s5⟩ := hSw; go_simp; done) | rfl⟩) (by assumption) ?_
        simp only [Act.put, List.getElem_toArray, List.getElem_cons_succ, List.getElem_cons_zero, List.setIfInBounds_toArray, List.set_cons_succ, List.set_cons_zero]
        refine wpAnyH_take (i := 13) (v := .bool false) rfl (by kernel_rfl) (by kernel_rfl) (by kernel_rfl) (fun _ _ _ h => h) (Or.inl ⟨by kernel_rfl, fun w hSw => by first | (go_simp; done) | (dsimp only at hSw; obtain ⟨s0, s1, s2, s3, s4, s5⟩ := hSw; go_simp; done) | rfl⟩) (by assumption) ?_
        simp only [Act.put, List.getElem_toArray, List.getElem_cons_succ, List.getElem_cons_zero, List.setIfInBounds_toArray, List.set_cons_succ, List.set_cons_zero]
        refine wpAnyH_take (i := 14) (v := .slice (some ⟨b, u, none⟩) l.length c) rfl (by kernel_rfl) (by kernel_rfl) (by kernel_rfl) (fun _ _ _ h => h) (Or.inl ⟨by kernel_rfl, fun w hSw => by first | (go_simp; done) | (dsimp only at hSw; obtain ⟨s0, s1, s2, s3, s4, s5⟩ := hSw; go_simp; done) | rfl⟩) (by assumption) ?_
        simp only [Act.put, List.getElem_toArray, List.getElem_cons_succ, List.getElem_cons_zero, List.setIfInBounds_toArray, List.set_cons_succ, List.set_cons_zero]
        refine wpAnyH_take (i := 15) (v := .int .i64 l.length) rfl (by kernel_rfl) (by kernel_rfl) (by kernel_rfl) (fun _ _ _ h => h) (Or.inl ⟨by kernel_rfl, fun w hSw => by first | (go_simp; done) | (dsimp only at hSw; obtain ⟨s0, s1, s2, s3, s4, s5⟩ := hSw; go_simp; done) | rfl⟩) (by assumption) ?_
        simp only [Act.put, List.getElem_toArray, List.getElem_cons_succ, List.getElem_cons_zero, List.setIfInBounds_toArray, List.set_cons_succ, List.set_cons_zero]
        refine wpAnyH_take (i := 16) (v := .bool false) rfl (by kernel_rfl) (by kernel_rfl) (by kernel_rfl) (fun _ _ _ h => h) (Or.inl ⟨by kernel_rfl, fun w hSw => by first | (go_simp; done) | (dsimp only at hSw; obtain ⟨s0, s1, s2, s3, s4, s5⟩ := hSw; go_simp; done) | rfl⟩) (by assumption) ?_
        simp only [Act.put, List.getElem_toArray, List.getElem_cons_succ, List.getElem_cons_zero, List.setIfInBounds_toArray, List.set_cons_succ, List.set_cons_zero]
        refine wpAnyH_take (i := 17) (v := .bool false) rfl (by kernel_rfl) (by kernel_rfl) (by kernel_rfl) (fun _ _ _ h => h) (Or.inl ⟨by kernel_rfl, fun w hSw => by first | (go_simp; done) | (dsimp only at hSw; obtain ⟨s0, s1, s2, s3, s4, s5⟩ := hSw; go_simp; done) | rfl⟩) (by assumption) ?_
        simp only [Act.put, List.getElem_toArray, List.getElem_cons_succ, List.getElem_cons_zero, List.setIfInBounds_toArray, List.set_cons_succ, List.set_cons_zero]
        refine wpAnyH_done (by kernel_rfl) ?_ _
        clear HT6
        have LF := LV.drew
        generalize World.drew v2 = v4 at *
        have HT6 : Hid (∀ W, Below v4.heap.size v4 W → W.cell? ⟨w.heap.size, 0, none⟩ = some (.int .i64 x.dv) ∧ W.cell? ⟨w.heap.size, 1, none⟩ = some (.int .i64 x.no) ∧ W.cell? ⟨w.heap.size, 2, none⟩ = some (.int .i64 x.tk) ∧ W.cell? ⟨w.heap.size, 3, none⟩ = some (.int .i64 x.tr) ∧ W.cell? ⟨w.heap.size, 4, none⟩ = some (.int .i64 x.dy) ∧ W.cell? ⟨w.heap.size, 5, none⟩ = some (.int .i64 x.sa)) := fun W q => HX6.out W (LF.trans (q.mono LF.size))
        go_wp2
        have hkc : k ≤ c := by omega
        have hkz : (0 : Int) ≤ (k : Int) := by omega
        have hkn2 : (k : Int) ≤ (l.length : Int) := by omega
        have hkc2 : (k : Int) ≤ (c : Int) := by omega
        have hnc : (l.length : Int) ≤ (c : Int) := by omega
        have hsrc1 : ∀ W, Below v4.heap.size v4 W → _ := fun W q => ctls_take k ((I0.on LF).on q)
        obtain ⟨u2, hu2a, hu2b⟩ : ∃ u2, (c = k → u2 = u) ∧ (¬ c = k → u2 = u + k * 6) := ⟨if c = k then u else u + k * 6, fun h => if_pos h, fun h => if_neg h⟩
        have hsrc2 : ∀ W, Below v4.heap.size v4 W → _ := fun W q => ctls_rest (n := c) hc hk hu2b ((I0.on LF).on q)
        have hLsz : w.heap.size ≤ v4.heap.size := Nat.le_trans N0.size LF.size
        have HEQ : Hid (∀ (v : Value) (W : World), W.ownsRow v4.heap.size 37 6 v (k + 1 + (l.length - k)) (ccells (l.take k) ++ cc1 x ++ ccells (l.drop k)) → ∃ g c', v = .slice (some ⟨g, 0, none⟩) (putC l x).length c' ∧ (putC l x).length ≤ c' ∧ W.ownsRow w.heap.size 37 6 (.slice (some ⟨g, 0, none⟩) (putC l x).length c') (putC l x).length (ccells (putC l x))) := by
          intro v W O
          rw [HPUT.out]
          have e1 : k + 1 + (l.length - k) = (insC x l).length := by rw [insC_len]; omega
          have e2 : ccells (l.take k) ++ cc1 x ++ ccells (l.drop k) = ccells (insC x l) := by unfold insC; rw [HKP.out]; simp [ccells]
          rw [e1, e2] at O
          have O2 := own_lower O hLsz
          obtain ⟨h1, ⟨rfl, h0⟩ | ⟨g, cap, cur, rfl, hg, hh, hnc, hr⟩⟩ := O
          · rw [insC_len] at h0; omega
          · exact ⟨g, cap, rfl, hnc, O2⟩
        refine wp_region_held_drew (S := (fun w' => w'.cell? ⟨w.heap.size, 0, none⟩ = some (.int .i64 x.dv) ∧ w'.cell? ⟨w.heap.size, 1, none⟩ = some (.int .i64 x.no) ∧ w'.cell? ⟨w.heap.size, 2, none⟩ = some (.int .i64 x.tk) ∧ w'.cell? ⟨w.heap.size, 3, none⟩ = some (.int .i64 x.tr) ∧ w'.cell? ⟨w.heap.size, 4, none⟩ = some (.int .i64 x.dy) ∧ w'.cell? ⟨w.heap.size, 5, none⟩ = some (.int .i64 x.sa))) (by kernel_rfl) ?_ (fun hHeld => ?_)
        · exact HT6.out _ (Below.refl v4.heap.size v4).drew
        refine wpAnyH_take (i := 1) (v := .slice (some ⟨b, u, none⟩) l.length c) rfl (by kernel_rfl) (by kernel_rfl) (by kernel_rfl) (fun _ _ _ h => h) (Or.inl ⟨by kernel_rfl, fun w hSw => by first | (go_simp; done) | (dsimp only at hSw; obtain ⟨s0, s1, s2, s3, s4, s5⟩ := hSw; go_simp; done) | rfl⟩) (by assumption) ?_
        simp only [Act.put, List.getElem_toArray, List.getElem_cons_succ, List.getElem_cons_zero, List.setIfInBounds_toArray, List.set_cons_succ, List.set_cons_zero]
        refine wpAnyH_take (i := 2) (v := .int .i64 k) rfl (by kernel_rfl) (by kernel_rfl) (by kernel_rfl) (fun _ _ _ h => h) (Or.inl ⟨by kernel_rfl, fun w hSw => by first | (go_simp; done) | (dsimp only at hSw; obtain ⟨s0, s1, s2, s3, s4, s5⟩ := hSw; go_simp; done) | rfl⟩) (by assumption) ?_
        simp only [Act.put, List.getElem_toArray, List.getElem_cons_succ, List.getElem_cons_zero, List.setIfInBounds_toArray, List.set_cons_succ, List.set_cons_zero]
        refine wpAnyH_take (i := 3) (v := .slice (some ⟨b, u, none⟩) k c) rfl (by kernel_rfl) (by kernel_rfl) (by kernel_rfl) (fun _ _ _ h => h) (Or.inl ⟨by kernel_rfl, fun w hSw => by first | (go_simp; done) | (dsimp only at hSw; obtain ⟨s0, s1, s2, s3, s4, s5⟩ := hSw; go_simp; done) | rfl⟩) (by assumption) ?_
        simp only [Act.put, List.getElem_toArray, List.getElem_cons_succ, List.getElem_cons_zero, List.setIfInBounds_toArray, List.set_cons_succ, List.set_cons_zero]
        refine wpAnyH_take (i := 5) (v := lgV x) rfl (by kernel_rfl) (by kernel_rfl) (by kernel_rfl) (fun _ _ _ h => h) (Or.inl ⟨by kernel_rfl, fun w hSw => by first | (go_simp; done) | (dsimp only at hSw; obtain ⟨s0, s1, s2, s3, s4, s5⟩ := hSw; go_simp; done) | rfl⟩) (by assumption) ?_
        simp only [Act.put, List.getElem_toArray, List.getElem_cons_succ, List.getElem_cons_zero, List.setIfInBounds_toArray, List.set_cons_succ, List.set_cons_zero]
        refine wpAnyH_take (i := 8) (v := .slice (some ⟨b, u, none⟩) l.length c) rfl (by kernel_rfl) (by kernel_rfl) (by kernel_rfl) (fun _ _ _ h => h) (Or.inl ⟨by kernel_rfl, fun w hSw => by first | (go_simp; done) | (dsimp only at hSw; obtain ⟨s0, s1, s2, s3, s4, s5⟩ := hSw; go_simp; done) | rfl⟩) (by assumption) ?_
        simp only [Act.put, List.getElem_toArray, List.getElem_cons_succ, List.getElem_cons_zero, List.setIfInBounds_toArray, List.set_cons_succ, List.set_cons_zero]
        refine wpAnyH_take (i := 9) (v := .int .i64 k) rfl (by kernel_rfl) (by kernel_rfl) (by kernel_rfl) (fun _ _ _ h => h) (Or.inl ⟨by kernel_rfl, fun w hSw => by first | (go_simp; done) | (dsimp only at hSw; obtain ⟨s0, s1, s2, s3, s4, s5⟩ := hSw; go_simp; done) | rfl⟩) (by assumption) ?_
        simp only [Act.put, List.getElem_toArray, List.getElem_cons_succ, List.getElem_cons_zero, List.setIfInBounds_toArray, List.set_cons_succ, List.set_cons_zero]
        refine wpAnyH_take (i := 10) (v := .slice (some ⟨b, u2, none⟩) (l.length - k) (c - k)) rfl (by kernel_rfl) (by kernel_rfl) (by kernel_rfl) (fun _ _ _ h => h) (Or.inl ⟨by kernel_rfl, fun w hSw => by (by_cases hxk : c = k; (· (rw [hu2a hxk]; go_simp; done)); (· (rw [hu2b hxk]; go_simp; done)))⟩) (by assumption) ?_
        simp only [Act.put, List.getElem_toArray, List.getElem_cons_succ, List.getElem_cons_zero, List.setIfInBounds_toArray, List.set_cons_succ, List.set_cons_zero]
        have KD := (Below.refl v4.heap.size v4).drew
        generalize v4.drew = vd at *
        refine wpAnyH_ready (rs := [0, 6]) (by kernel_rfl) (by simp) ?_
        refine AllReadyH.cons rfl (fun K hK => ?_) (AllReadyH.cons rfl (fun K hK => ?_) (AllReadyH.nil))
        · go_simp
          have zN35 := new_below vd (.cells #[] 37)
          have zm35 := heap_new vd (.cells #[] 37)
          have zK35 := join_below KD zN35
          have zO35 := own_lower (nil_row vd 37 6) (show v4.heap.size ≤ vd.heap.size from (KD).size)
          refine hK.out _ _ ?_ (fun hHeld2 => ?_)
          · exact HT6.out _ (zK35)
          clear hK K hHeld
          have hHeld := hHeld2
          clear hHeld2
          obtain ⟨zav35, zhav35⟩ : ∃ av, (Value.slice (some ⟨vd.heap.size, 0, none⟩) 0 0) = av := ⟨_, rfl⟩
          rw [zhav35] at zO35
          try rw [zhav35]
          clear zhav35
          generalize (vd.alloc (.cells #[] 37)) = zw35 at *
          refine wpAnyH_ready (rs := [4, 6]) (by kernel_rfl) (by simp) ?_
          refine AllReadyH.cons rfl (fun K hK => ?_) (AllReadyH.cons rfl (fun K hK => ?_) (AllReadyH.nil))
          · rw [if_pos (by kernel_rfl)]
            refine wp_append_at _ _ 25 rfl v4.heap.size 37 i0 (lgV ⟨0, 0, 0, 0, 0, 0⟩) 6 48 Try.underlying25 hi hz0 hz1 hz3 rfl (by omega) _ _ _ rfl zO35 ⟨b, u, none⟩ k c (ccells (l.take k)) rfl (by rw [ccells_length, List.length_take]; congr 1; omega) (fun j v hv => (hsrc1 _ (zK35)) j v hv) (ccells_one _) (by unfold maxLen; omega) (by omega) (by have h3 := (zK35).size; omega) ?_
            intro zv36 zw36 zO36 zG36 zhl36
            have zK36 := (zK35).grown zG36 (zK35).size (fun j hj => (zO35.lt j hj).1)
            rw [Nat.zero_add, List.nil_append] at zO36
            clear zG36 zhl36
            refine hK.out _ _ ?_ (fun hHeld2 => ?_)
            · exact HT6.out _ (zK36)
            clear hK K hHeld
            have hHeld := hHeld2
            clear hHeld2
            refine wpAnyH_ready (rs := [6]) (by kernel_rfl) (by simp) ?_
            refine AllReadyH.cons rfl (fun K hK => ?_) (AllReadyH.nil)
            go_simp
            have zN37 := new_below zw36 (.cells #[.int .i64 x.dv, .int .i64 x.no, .int .i64 x.tk, .int .i64 x.tr, .int .i64 x.dy, .int .i64 x.sa] 37)
            have zm37 := heap_new zw36 (.cells #[.int .i64 x.dv, .int .i64 x.no, .int .i64 x.tk, .int .i64 x.tr, .int .i64 x.dy, .int .i64 x.sa] 37)
            have zK37 := join_below zK36 zN37
            have zO37 := own_below zO36 zN37 (Nat.le_refl _)
            have zhn37 : (zv36).ownBlock ≠ some zw36.heap.size := fun h => by have := (zO36.lt _ h).2; omega
            refine hK.out _ _ ?_ (fun hHeld2 => ?_)
            · exact HT6.out _ (zK37)
            clear hK K hHeld
            have hHeld := hHeld2
            clear hHeld2
            obtain ⟨zad37, zhad37⟩ : ∃ ad, zw36.heap.size = ad := ⟨_, rfl⟩
            rw [zhad37] at zm37 zhn37
            try rw [zhad37]
            clear zhad37
            generalize (zw36.alloc (.cells #[.int .i64 x.dv, .int .i64 x.no, .int .i64 x.tk, .int .i64 x.tr, .int .i64 x.dy, .int .i64 x.sa] 37)) = zw37 at *
            refine wpAnyH_ready (rs := [7]) (by kernel_rfl) (by simp) ?_
            refine AllReadyH.cons rfl (fun K hK => ?_) (AllReadyH.nil)
            rw [if_pos (by kernel_rfl)]
            refine wp_append_at _ _ 25 rfl v4.heap.size 37 i0 (lgV ⟨0, 0, 0, 0, 0, 0⟩) 6 48 Try.underlying25 hi hz0 hz1 hz3 rfl (by omega) _ _ _ rfl zO37 ⟨zad37, 0, none⟩ 1 1 (cc1 x) rfl rfl (six_of zm37) (cc1_ones x) (by unfold maxLen; omega) (by omega) (by have h3 := (zK37).size; omega) ?_
            intro zv38 zw38 zO38 zG38 zhl38
            have zK38 := (zK37).grown zG38 (zK37).size (fun j hj => (zO37.lt j hj).1)
            clear zG38 zhl38
            refine hK.out _ _ ?_ (fun hHeld2 => ?_)
            · exact HT6.out _ (zK38)
            clear hK K hHeld
            have hHeld := hHeld2
            clear hHeld2
            refine wpAnyH_ready (rs := [11]) (by kernel_rfl) (by simp) ?_
            refine AllReadyH.cons rfl (fun K hK => ?_) (AllReadyH.nil)
            rw [if_pos (by kernel_rfl)]
            refine wp_append_at _ _ 25 rfl v4.heap.size 37 i0 (lgV ⟨0, 0, 0, 0, 0, 0⟩) 6 48 Try.underlying25 hi hz0 hz1 hz3 rfl (by omega) _ _ _ rfl zO38 ⟨b, u2, none⟩ (l.length - k) (c - k) (ccells (l.drop k)) rfl (by rw [ccells_length, List.length_drop]) (fun j v hv => (hsrc2 _ (zK38)) j v hv) (ccells_one _) (by unfold maxLen; omega) (by omega) (by have h3 := (zK38).size; omega) ?_
            intro zv39 zw39 zO39 zG39 zhl39
            have zK39 := (zK38).grown zG39 (zK38).size (fun j hj => (zO38.lt j hj).1)
            clear zG39 zhl39
            refine hK.out _ _ ?_ (fun hHeld2 => ?_)
            · exact HT6.out _ (zK39)
            clear hK K hHeld
            have hHeld := hHeld2
            clear hHeld2
            refine wpAnyH_ready (rs := [12]) (by kernel_rfl) (by simp) ?_
            refine AllReadyH.cons rfl (fun K hK => ?_) (AllReadyH.nil)
            go_simp
            refine hK.out _ _ ?_ (fun hHeld2 => ?_)
            · exact HT6.out _ (zK39)
            clear hK K hHeld
            have hHeld := hHeld2
            clear hHeld2
            refine wpAnyH_done (by kernel_rfl) ?_ _
            obtain ⟨g, c', hv, hcc, hO⟩ := HEQ.out _ _ zO39
            subst hv
            have LQ := N0.trans ((LF.trans ((zK39).mono LF.size)).mono N0.size)
            go_wp2
            go_ret
            exact ⟨_, rfl, Or.inr ⟨g, c', rfl, hcc, hO⟩, LQ⟩
          · go_simp
            have zN41 := new_below zw35 (.cells #[.int .i64 x.dv, .int .i64 x.no, .int .i64 x.tk, .int .i64 x.tr, .int .i64 x.dy, .int .i64 x.sa] 37)
            have zm41 := heap_new zw35 (.cells #[.int .i64 x.dv, .int .i64 x.no, .int .i64 x.tk, .int .i64 x.tr, .int .i64 x.dy, .int .i64 x.sa] 37)
            have zK41 := join_below zK35 zN41
            have zO41 := own_below zO35 zN41 (Nat.le_refl _)
            have zhn41 : (zav35).ownBlock ≠ some zw35.heap.size := fun h => by have := (zO35.lt _ h).2; omega
            refine hK.out _ _ ?_ (fun hHeld2 => ?_)
            · exact HT6.out _ (zK41)
            clear hK K hHeld
            have hHeld := hHeld2
            clear hHeld2
            obtain ⟨zad41, zhad41⟩ : ∃ ad, zw35.heap.size = ad := ⟨_, rfl⟩
            rw [zhad41] at zm41 zhn41
            try rw [zhad41]
            clear zhad41
            generalize (zw35.alloc (.cells #[.int .i64 x.dv, .int .i64 x.no, .int .i64 x.tk, .int .i64 x.tr, .int .i64 x.dy, .int .i64 x.sa] 37)) = zw41 at *
            refine wpAnyH_ready (rs := [4]) (by kernel_rfl) (by simp) ?_
            refine AllReadyH.cons rfl (fun K hK => ?_) (AllReadyH.nil)
            rw [if_pos (by kernel_rfl)]
            refine wp_append_at _ _ 25 rfl v4.heap.size 37 i0 (lgV ⟨0, 0, 0, 0, 0, 0⟩) 6 48 Try.underlying25 hi hz0 hz1 hz3 rfl (by omega) _ _ _ rfl zO41 ⟨b, u, none⟩ k c (ccells (l.take k)) rfl (by rw [ccells_length, List.length_take]; congr 1; omega) (fun j v hv => (hsrc1 _ (zK41)) j v hv) (ccells_one _) (by unfold maxLen; omega) (by omega) (by have h3 := (zK41).size; omega) ?_
            intro zv42 zw42 zO42 zG42 zhl42
            have zK42 := (zK41).grown zG42 (zK41).size (fun j hj => (zO41.lt j hj).1)
            have zq42 : zw42.heap[zad41]? = some (.cells #[.int .i64 x.dv, .int .i64 x.no, .int .i64 x.tk, .int .i64 x.tr, .int .i64 x.dy, .int .i64 x.sa] 37) := by rw [zG42.block zad41 (lt_of zm41) (fun h => zhn41 h.symm)]; exact zm41
            have zhn42 : zv42.ownBlock ≠ some zad41 := by
              rcases zhl42 with h | h
              · rw [h]; exact zhn41
              · rw [h]; intro h2; have := lt_of zm41; simp at h2; omega
            rw [Nat.zero_add, List.nil_append] at zO42
            clear zG42 zhl42
            refine hK.out _ _ ?_ (fun hHeld2 => ?_)
            · exact HT6.out _ (zK42)
            clear hK K hHeld
            have hHeld := hHeld2
            clear hHeld2
            refine wpAnyH_ready (rs := [7]) (by kernel_rfl) (by simp) ?_
            refine AllReadyH.cons rfl (fun K hK => ?_) (AllReadyH.nil)
            rw [if_pos (by kernel_rfl)]
            refine wp_append_at _ _ 25 rfl v4.heap.size 37 i0 (lgV ⟨0, 0, 0, 0, 0, 0⟩) 6 48 Try.underlying25 hi hz0 hz1 hz3 rfl (by omega) _ _ _ rfl zO42 ⟨zad41, 0, none⟩ 1 1 (cc1 x) rfl rfl (six_of zq42) (cc1_ones x) (by unfold maxLen; omega) (by omega) (by have h3 := (zK42).size; omega) ?_
            intro zv43 zw43 zO43 zG43 zhl43
            have zK43 := (zK42).grown zG43 (zK42).size (fun j hj => (zO42.lt j hj).1)
            clear zG43 zhl43
            refine hK.out _ _ ?_ (fun hHeld2 => ?_)
            · exact HT6.out _ (zK43)
            clear hK K hHeld
            have hHeld := hHeld2
            clear hHeld2
            refine wpAnyH_ready (rs := [11]) (by kernel_rfl) (by simp) ?_
            refine AllReadyH.cons rfl (fun K hK => ?_) (AllReadyH.nil)
            rw [if_pos (by kernel_rfl)]
            refine wp_append_at _ _ 25 rfl v4.heap.size 37 i0 (lgV ⟨0, 0, 0, 0, 0, 0⟩) 6 48 Try.underlying25 hi hz0 hz1 hz3 rfl (by omega) _ _ _ rfl zO43 ⟨b, u2, none⟩ (l.length - k) (c - k) (ccells (l.drop k)) rfl (by rw [ccells_length, List.length_drop]) (fun j v hv => (hsrc2 _ (zK43)) j v hv) (ccells_one _) (by unfold maxLen; omega) (by omega) (by have h3 := (zK43).size; omega) ?_
            intro zv44 zw44 zO44 zG44 zhl44
            have zK44 := (zK43).grown zG44 (zK43).size (fun j hj => (zO43.lt j hj).1)
            clear zG44 zhl44
            refine hK.out _ _ ?_ (fun hHeld2 => ?_)
            · exact HT6.out _ (zK44)
            clear hK K hHeld
            have hHeld := hHeld2
            clear hHeld2
            refine wpAnyH_ready (rs := [12]) (by kernel_rfl) (by simp) ?_
            refine AllReadyH.cons rfl (fun K hK => ?_) (AllReadyH.nil)
            go_simp
            refine hK.out _ _ ?_ (fun hHeld2 => ?_)
            · exact HT6.out _ (zK44)
            clear hK K hHeld
            have hHeld := hHeld2
            clear hHeld2
            refine wpAnyH_done (by kernel_rfl) ?_ _
            obtain ⟨g, c', hv, hcc, hO⟩ := HEQ.out _ _ zO44
            subst hv
            have LQ := N0.trans ((LF.trans ((zK44).mono LF.size)).mono N0.size)
            go_wp2
            go_ret
            exact ⟨_, rfl, Or.inr ⟨g, c', rfl, hcc, hO⟩, LQ⟩
        · go_simp
          have zN46 := new_below vd (.cells #[.int .i64 x.dv, .int .i64 x.no, .int .i64 x.tk, .int .i64 x.tr, .int .i64 x.dy, .int .i64 x.sa] 37)
          have zm46 := heap_new vd (.cells #[.int .i64 x.dv, .int .i64 x.no, .int .i64 x.tk, .int .i64 x.tr, .int .i64 x.dy, .int .i64 x.sa] 37)
          have zK46 := join_below KD zN46
          refine hK.out _ _ ?_ (fun hHeld2 => ?_)
          · exact HT6.out _ (zK46)
          clear hK K hHeld
          have hHeld := hHeld2
          clear hHeld2
          obtain ⟨zad46, zhad46⟩ : ∃ ad, vd.heap.size = ad := ⟨_, rfl⟩
          rw [zhad46] at zm46
          try rw [zhad46]
          clear zhad46
          generalize (vd.alloc (.cells #[.int .i64 x.dv, .int .i64 x.no, .int .i64 x.tk, .int .i64 x.tr, .int .i64 x.dy, .int .i64 x.sa] 37)) = zw46 at *
          refine wpAnyH_ready (rs := [0]) (by kernel_rfl) (by simp) ?_
          refine AllReadyH.cons rfl (fun K hK => ?_) (AllReadyH.nil)
          go_simp
          have zN47 := new_below zw46 (.cells #[] 37)
          have zm47 := heap_new zw46 (.cells #[] 37)
          have zK47 := join_below zK46 zN47
          have zO47 := own_lower (nil_row zw46 37 6) (show v4.heap.size ≤ zw46.heap.size from (zK46).size)
          have zq47 := kept zN47 (lt_of zm46) zm46
          have zhn47 : (Value.slice (some ⟨zw46.heap.size, 0, none⟩) 0 0).ownBlock ≠ some zad46 := by have := lt_of zm46; simp [Value.ownBlock]; omega
          refine hK.out _ _ ?_ (fun hHeld2 => ?_)
          · exact HT6.out _ (zK47)
          clear hK K hHeld
          have hHeld := hHeld2
          clear hHeld2
          obtain ⟨zav47, zhav47⟩ : ∃ av, (Value.slice (some ⟨zw46.heap.size, 0, none⟩) 0 0) = av := ⟨_, rfl⟩
          rw [zhav47] at zO47 zhn47
          try rw [zhav47]
          clear zhav47
          generalize (zw46.alloc (.cells #[] 37)) = zw47 at *
          refine wpAnyH_ready (rs := [4]) (by kernel_rfl) (by simp) ?_
          refine AllReadyH.cons rfl (fun K hK => ?_) (AllReadyH.nil)
          rw [if_pos (by kernel_rfl)]
          refine wp_append_at _ _ 25 rfl v4.heap.size 37 i0 (lgV ⟨0, 0, 0, 0, 0, 0⟩) 6 48 Try.underlying25 hi hz0 hz1 hz3 rfl (by omega) _ _ _ rfl zO47 ⟨b, u, none⟩ k c (ccells (l.take k)) rfl (by rw [ccells_length, List.length_take]; congr 1; omega) (fun j v hv => (hsrc1 _ (zK47)) j v hv) (ccells_one _) (by unfold maxLen; omega) (by omega) (by have h3 := (zK47).size; omega) ?_
          intro zv48 zw48 zO48 zG48 zhl48
          have zK48 := (zK47).grown zG48 (zK47).size (fun j hj => (zO47.lt j hj).1)
          have zq48 : zw48.heap[zad46]? = some (.cells #[.int .i64 x.dv, .int .i64 x.no, .int .i64 x.tk, .int .i64 x.tr, .int .i64 x.dy, .int .i64 x.sa] 37) := by rw [zG48.block zad46 (lt_of zq47) (fun h => zhn47 h.symm)]; exact zq47
          have zhn48 : zv48.ownBlock ≠ some zad46 := by
            rcases zhl48 with h | h
            · rw [h]; exact zhn47
            · rw [h]; intro h2; have := lt_of zq47; simp at h2; omega
          rw [Nat.zero_add, List.nil_append] at zO48
          clear zG48 zhl48
          refine hK.out _ _ ?_ (fun hHeld2 => ?_)
          · exact HT6.out _ (zK48)
          clear hK K hHeld
          have hHeld := hHeld2
          clear hHeld2
          refine wpAnyH_ready (rs := [7]) (by kernel_rfl) (by simp) ?_
          refine AllReadyH.cons rfl (fun K hK => ?_) (AllReadyH.nil)
          rw [if_pos (by kernel_rfl)]
          refine wp_append_at _ _ 25 rfl v4.heap.size 37 i0 (lgV ⟨0, 0, 0, 0, 0, 0⟩) 6 48 Try.underlying25 hi hz0 hz1 hz3 rfl (by omega) _ _ _ rfl zO48 ⟨zad46, 0, none⟩ 1 1 (cc1 x) rfl rfl (six_of zq48) (cc1_ones x) (by unfold maxLen; omega) (by omega) (by have h3 := (zK48).size; omega) ?_
          intro zv49 zw49 zO49 zG49 zhl49
          have zK49 := (zK48).grown zG49 (zK48).size (fun j hj => (zO48.lt j hj).1)
          clear zG49 zhl49
          refine hK.out _ _ ?_ (fun hHeld2 => ?_)
          · exact HT6.out _ (zK49)
          clear hK K hHeld
          have hHeld := hHeld2
          clear hHeld2
          refine wpAnyH_ready (rs := [11]) (by kernel_rfl) (by simp) ?_
          refine AllReadyH.cons rfl (fun K hK => ?_) (AllReadyH.nil)
          rw [if_pos (by kernel_rfl)]
          refine wp_append_at _ _ 25 rfl v4.heap.size 37 i0 (lgV ⟨0, 0, 0, 0, 0, 0⟩) 6 48 Try.underlying25 hi hz0 hz1 hz3 rfl (by omega) _ _ _ rfl zO49 ⟨b, u2, none⟩ (l.length - k) (c - k) (ccells (l.drop k)) rfl (by rw [ccells_length, List.length_drop]) (fun j v hv => (hsrc2 _ (zK49)) j v hv) (ccells_one _) (by unfold maxLen; omega) (by omega) (by have h3 := (zK49).size; omega) ?_
          intro zv50 zw50 zO50 zG50 zhl50
          have zK50 := (zK49).grown zG50 (zK49).size (fun j hj => (zO49.lt j hj).1)
          clear zG50 zhl50
          refine hK.out _ _ ?_ (fun hHeld2 => ?_)
          · exact HT6.out _ (zK50)
          clear hK K hHeld
          have hHeld := hHeld2
          clear hHeld2
          refine wpAnyH_ready (rs := [12]) (by kernel_rfl) (by simp) ?_
          refine AllReadyH.cons rfl (fun K hK => ?_) (AllReadyH.nil)
          go_simp
          refine hK.out _ _ ?_ (fun hHeld2 => ?_)
          · exact HT6.out _ (zK50)
          clear hK K hHeld
          have hHeld := hHeld2
          clear hHeld2
          refine wpAnyH_done (by kernel_rfl) ?_ _
          obtain ⟨g, c', hv, hcc, hO⟩ := HEQ.out _ _ zO50
          subst hv
          have LQ := N0.trans ((LF.trans ((zK50).mono LF.size)).mono N0.size)
          go_wp2
          go_ret
          exact ⟨_, rfl, Or.inr ⟨g, c', rfl, hcc, hO⟩, LQ⟩

end Hn
end Go.Proofs.Ytbmfhdlbbaabgaa

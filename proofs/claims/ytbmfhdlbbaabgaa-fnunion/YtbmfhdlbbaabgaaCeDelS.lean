/- Deliver of the model. -/
import Derived.Test.YtbmfhdlbbaabgaaCePut
import Derived.Test.YtbmfhdlbbaabgaaCeCp2
namespace Go.Proofs.Ytbmfhdlbbaabgaa
namespace Hn
open Go.ChangeShapes Go.WideShapes Go.ChangeAt Go.RowKit Go.Joins
open Pk (new_below join_below cell_at heap_new frozen_at lt_of kept heap_old Drawn info_of Room own_form own_below)
set_option linter.unusedSimpArgs false
set_option linter.unusedVariables false

/-- Controls put in one behind the other. -/
def delF (l : List Ct) (m : List Ct) (k : Nat) : List Ct := (m.take k).foldl putC l

theorem delF_step {l m : List Ct} {k : Nat} (hk : k < m.length) : delF l m (k + 1) = putC (delF l m k) m[k] := by
  unfold delF
  rw [List.take_succ_eq_append_getElem hk, List.foldl_append]
  rfl

theorem delF_len {l : List Ct} (m : List Ct) (h : l.length ≤ 600) : ∀ k, (delF l m k).length ≤ 600 := by
  intro k
  unfold delF
  generalize m.take k = q
  induction q generalizing l with
  | nil => exact h
  | cons a t ih => exact ih (putC_cap a h)

def delO (b : Bool) (o : Ctr) (m : List Ct) : Ctr := if b = true then ⟨o.ve, o.ol, delF o.sl m m.length⟩ else o

theorem del_no (o : Ctr) (m : List Ct) : delO false o m = o := rfl
theorem del_yes (o : Ctr) (m : List Ct) : delO true o m = ⟨o.ve, o.ol, delF o.sl m m.length⟩ := rfl

theorem cen_ctls {o : Ctr} (h : cenB o = true) : o.sl.length ≤ 600 ∧ ascB o.sl = true := by
  unfold cenB ctlB at h
  simp at h
  exact ⟨h.2.2.1, h.2.2.2⟩

theorem own_typed {w : World} {lo e size n Q i t : Nat} {v u : Value} {xs : List Value} {cs : Array Value} {f : Nat × Nat} (h : w.ownsRow lo e size v n xs) (hQ : w.heap[Q]? = some (.cells cs t f)) (hne : t ≠ e) : (w.setCell ⟨Q, i, none⟩ u).ownsRow lo e size v n xs := by
  obtain ⟨h1, h2⟩ := h
  refine ⟨h1, ?_⟩
  rcases h2 with h2 | ⟨g, cap, cur, hv, hg, hh, hr⟩
  · exact Or.inl h2
  · refine Or.inr ⟨g, cap, cur, hv, hg, ?_, hr⟩
    have hgQ : g ≠ Q := by
      intro e1
      subst e1
      rw [hh] at hQ
      simp only [Option.some.injEq, Obj.cells.injEq] at hQ
      exact hne hQ.2.1.symm
    rw [Below.heap_setCell w ⟨Q, i, none⟩ u g hgQ]
    exact hh

set_option maxRecDepth 100000 in
set_option maxHeartbeats 8000000 in
theorem specDel_gen (x : Pl) (o : Ctr) (a : Option Addr) (l : List Ct) (cap : Nat) (w : World) (hz : o.ol.length ≤ 1048576) (hz2 : o.sl.length ≤ 1048576) (hz3 : l.length ≤ 1048576) (I : In w x o) (fl : ∀ W : World, In W x o → Calls Try.prog 38 #[ceV x o] W fun e w' => ∃ y, e = .returned (ceV y o) ∧ Copied W.heap.size w' y o ∧ (∃ g, y.a = some ⟨g, 0, none⟩) ∧ (∃ g, y.b = some ⟨g, 0, none⟩) ∧ Below W.heap.size W w') (J : Controls w a l) :
    Calls Try.prog 12 #[ceV x o, .slice a l.length cap] w fun e w' => ∃ y, e = .returned (ceV y (delO (cenB o) o l)) ∧ Copied w.heap.size w' y (delO (cenB o) o l) ∧ (∃ g, y.a = some ⟨g, 0, none⟩) ∧ (∃ g, y.b = some ⟨g, 0, none⟩) ∧ Below w.heap.size w w' := by
  obtain ⟨k0, k1, hs⟩ := two_blocks w (ceB x o 27) (.cells #[.int .i64 0, .slice none 0 0, .slice none 0 0] 27)
  have L : Below w.heap.size w ((w.alloc (ceB x o 27)).alloc (.cells #[.int .i64 0, .slice none 0 0, .slice none 0 0] 27)) := join_below (new_below _ _) (new_below _ _)
  have HC : Hid (∀ W : World, In W x o → _) := fun W h => fl W h
  have HH : Hid (∀ W : World, In W x o → _) := fun W h => specCentre_val x o W hz hz2 h
  clear fl
  go_enter Try.func12, Try.ntmps12
  go_wp2_with fail
  refine named fun V0 hV => ?_
  rw [← hV] at k0 k1 L hs
  clear hV
  refine (HC.out _ (I.on L)).mono ?_
  rintro e v1 ⟨y, rfl, C1, hya, ⟨g1, hyb⟩, L1⟩
  have n0 := kept L1 (lt_of k0) k0
  have n1 := kept L1 (lt_of k1) k1
  have B1 := join_below L L1
  have hg : w.heap.size + 1 + 1 ≤ V0.heap.size := Nat.le_of_eq hs.symm
  have hl1 : V0.heap.size ≤ v1.heap.size := L1.size
  have HYB : Hid (y.b = some ⟨g1, 0, none⟩) := hyb
  have HYA : Hid (∃ g, y.a = some ⟨g, 0, none⟩) := hya
  clear hyb hya
  have NQ := new_below v1 (ceB y o 27)
  have q2 := heap_new v1 (ceB y o 27)
  have q0 := heap_old n0 (ceB y o 27)
  have q1 := heap_old n1 (ceB y o 27)
  have B2 := join_below B1 NQ
  have C2 : Copied V0.heap.size (v1.alloc (ceB y o 27)) y o := C1.on NQ
  clear k0 k1 L L1 hs n0 n1 C1
  have a0 : (v1.alloc (ceB y o 27)).cell? ⟨w.heap.size, 0, none⟩ = some (.int .i64 o.ve) := cell_at q0 0
  have a1 : (v1.alloc (ceB y o 27)).cell? ⟨w.heap.size, 1, none⟩ = some (.slice x.a o.ol.length x.c) := cell_at q0 1
  have a2 : (v1.alloc (ceB y o 27)).cell? ⟨w.heap.size, 2, none⟩ = some (.slice x.b o.sl.length x.d) := cell_at q0 2
  go_wp2_with fail
  refine named fun V1 hV => ?_
  rw [← hV] at q0 q1 q2 B2 NQ C2
  clear hV a0 a1 a2
  refine (HH.out _ (I.on B2)).mono ?_
  rintro e v3 ⟨rfl, L3⟩
  have m1 := kept L3 (lt_of q1) q1
  have m2 := kept L3 (lt_of q2) q2
  have B3 := join_below B2 L3
  have C3 := C2.on L3
  have hlt3 := lt_of m2
  generalize v1.heap.size = Q at *
  clear q0 q1 q2 B1 B2 NQ HC HH L3 C2
  cases hb : cenB o
  · have HV : Hid (cenB o = false) := hb
    clear hb
    have e0 : v3.cell? ⟨w.heap.size + 1, 0, none⟩ = some (.int .i64 0) := cell_at m1 0
    have e1 : v3.cell? ⟨w.heap.size + 1, 1, none⟩ = some (.slice none 0 0) := cell_at m1 1
    have e2 : v3.cell? ⟨w.heap.size + 1, 2, none⟩ = some (.slice none 0 0) := cell_at m1 2
    have f0 : v3.frozen? ⟨w.heap.size + 1, 0, none⟩ = false := frozen_at m1 0
    have f1 : v3.frozen? ⟨w.heap.size + 1, 1, none⟩ = false := frozen_at m1 1
    have f2 : v3.frozen? ⟨w.heap.size + 1, 2, none⟩ = false := frozen_at m1 2
    have g0 : v3.cell? ⟨Q, 0, none⟩ = some (.int .i64 o.ve) := cell_at m2 0
    have g1 : v3.cell? ⟨Q, 1, none⟩ = some (.slice y.a o.ol.length y.c) := cell_at m2 1
    have g2 : v3.cell? ⟨Q, 2, none⟩ = some (.slice y.b o.sl.length y.d) := cell_at m2 2
    have HFIN : Hid (∀ W, Sw (w.heap.size + 1) (w.heap.size) v3 W → Copied w.heap.size W y (delO false o l)) := fun W s => ⟨own_lower (s.own C3.off (by omega) (by omega)) (by omega), own_lower (s.own C3.seen (by omega) (by omega)) (by omega)⟩
    have HB : Hid (∀ W, Below w.heap.size v3 W → Below w.heap.size w W) := fun W q => B3.trans q
    have HL : Hid (w.heap.size + 1 + 1 ≤ Q) := by show _ ≤ _; omega
    clear m1 m2 C3 B3 hg hl1 hlt3 I J
    go_wp2
    refine bodyPost_ret (v := ceV y (o)) (by simp [results, Try.results12, go_sem, e0, e1, e2]) rfl ?_
    refine ⟨y, by rw [HV.out] <;> rfl, ?_, HYA.out, ⟨_, HYB.out⟩, HB.out _ ?_⟩
    · rw [HV.out]
      refine HFIN.out _ ?_
      (repeat' (first | with_reducible exact Sw.refl _ _ _ | with_reducible apply Sw.one | with_reducible apply Sw.two))
    · (repeat' (first | apply Below.setCell | exact Below.refl _ _)) <;> first | (simp; done) | (have := HL.out; simp; omega)
  have HV : Hid (cenB o = true) := hb
  obtain ⟨h600, -⟩ := cen_ctls hb
  clear hb
  obtain ⟨ya, yc, yb, yd⟩ := y
  have hyb := HYB.out
  simp only at hyb
  subst hyb
  clear HYB
  have hyd : o.sl.length ≤ yd := by
    obtain ⟨-, ⟨h1, -⟩ | ⟨g, cp, cur, h1, -, -, h2, -⟩⟩ := C3.seen
    · simp at h1
    · simp only [Value.slice.injEq] at h1
      omega
  go_wp2
  go_loopw [6] (fun i wr => ∃ (k g c : Nat), k ≤ l.length ∧ i = .int .i64 k ∧ Below w.heap.size w wr ∧ wr.heap[w.heap.size + 1]? = some (.cells #[.int .i64 0, .slice none 0 0, .slice none 0 0] 27) ∧ wr.heap[Q]? = some (.cells #[.int .i64 o.ve, .slice ya o.ol.length yc, .slice (some ⟨g, 0, none⟩) (delF o.sl l k).length c] 27) ∧ (delF o.sl l k).length ≤ c ∧ wr.ownsRow V0.heap.size 3 1 (.slice ya o.ol.length yc) o.ol.length (icells o.ol) ∧ wr.ownsRow V0.heap.size 37 6 (.slice (some ⟨g, 0, none⟩) (delF o.sl l k).length c) (delF o.sl l k).length (ccells (delF o.sl l k))) (fun i _ => l.length - (intOf i).toNat)
  case atStart => exact ⟨0, g1, yd, by omega, rfl, B3, m1, m2, hyd, C3.off, C3.seen⟩
  case round =>
    clear B3 m1 m2 C3 hlt3 hyd
    obtain ⟨k, g, c, hk, rfl, LR, m1, m2, hgc, OO, OS⟩ := hrel
    have hsz := delF_len l h600 k
    have hQlt := lt_of m2
    have hP1lt := lt_of m1
    by_cases hkn : k < l.length
    · obtain ⟨b, u, rfl, hltb, hcs⟩ := (J.on LR).at k hkn
      have HXS : Hid (∀ W, Below w.heap.size w W → _) := fun W q => by
        obtain ⟨b', u', e', -, h⟩ := (J.on q).at k hkn
        simp only [Option.some.injEq, Addr.mk.injEq, and_true] at e'
        obtain ⟨rfl, rfl⟩ := e'
        exact h
      have HDF : Hid (delF o.sl l (k + 1) = putC (delF o.sl l k) l[k]) := delF_step hkn
      obtain ⟨va, vc, ve, OI⟩ := own_ctls OS
      simp only [Value.slice.injEq, true_and] at ve
      obtain ⟨rfl, rfl⟩ := ve
      have HPV : Hid (∀ W : World, Controls W (some ⟨g, 0, none⟩) (delF o.sl l k) → _) := fun W h => put_val g 0 (delF o.sl l k) c l[k] W (by omega) hgc h
      have hki : (0 : Int) ≤ (k : Int) := by omega
      have hkj : (k : Int) < (l.length : Int) := by omega
      generalize l[k] = p at *
      have HS : Hid (∀ W, Below wr.heap.size wr W → W.cell? ⟨b, u + k * 6, none⟩ = some (.int .i64 p.dv) ∧ W.cell? ⟨b, u + k * 6 + 1, none⟩ = some (.int .i64 p.no) ∧ W.cell? ⟨b, u + k * 6 + 2, none⟩ = some (.int .i64 p.tk) ∧ W.cell? ⟨b, u + k * 6 + 3, none⟩ = some (.int .i64 p.tr) ∧ W.cell? ⟨b, u + k * 6 + 4, none⟩ = some (.int .i64 p.dy) ∧ W.cell? ⟨b, u + k * 6 + 5, none⟩ = some (.int .i64 p.sa)) := fun W q => HXS.out W (LR.trans (q.mono LR.size))
      have HS2 : Hid (∀ W v, Below wr.heap.size wr W → (fun w' => w'.cell? ⟨b, u + k * 6, none⟩ = some (.int .i64 p.dv) ∧ w'.cell? ⟨b, u + k * 6 + 1, none⟩ = some (.int .i64 p.no) ∧ w'.cell? ⟨b, u + k * 6 + 2, none⟩ = some (.int .i64 p.tk) ∧ w'.cell? ⟨b, u + k * 6 + 3, none⟩ = some (.int .i64 p.tr) ∧ w'.cell? ⟨b, u + k * 6 + 4, none⟩ = some (.int .i64 p.dy) ∧ w'.cell? ⟨b, u + k * 6 + 5, none⟩ = some (.int .i64 p.sa)) (W.setCell ⟨Q, 2, none⟩ v)) := fun W v q => HXS.out _ ((LR.trans (q.mono LR.size)).setCell (p := ⟨Q, 2, none⟩) (show w.heap.size ≤ Q by omega) v)
      have HQ : Hid (∀ W, Below wr.heap.size wr W → W.heap[Q]? = some (.cells #[.int .i64 o.ve, .slice ya o.ol.length yc, .slice (some ⟨g, 0, none⟩) (delF o.sl l k).length c] 27)) := fun W q => kept q hQlt m2
      have HNX : Hid (∀ (W : World) (v : Value), Below wr.heap.size wr W → ((putC (delF o.sl l k) p = delF o.sl l k ∧ v = .slice (some ⟨g, 0, none⟩) (delF o.sl l k).length c) ∨ ∃ g c', v = .slice (some ⟨g, 0, none⟩) (putC (delF o.sl l k) p).length c' ∧ (putC (delF o.sl l k) p).length ≤ c' ∧ W.ownsRow (World.drew wr).heap.size 37 6 (.slice (some ⟨g, 0, none⟩) (putC (delF o.sl l k) p).length c') (putC (delF o.sl l k) p).length (ccells (putC (delF o.sl l k) p))) → ∃ g5 c5, v = .slice (some ⟨g5, 0, none⟩) (delF o.sl l (k + 1)).length c5 ∧ (delF o.sl l (k + 1)).length ≤ c5 ∧ W.ownsRow V0.heap.size 37 6 (.slice (some ⟨g5, 0, none⟩) (delF o.sl l (k + 1)).length c5) (delF o.sl l (k + 1)).length (ccells (delF o.sl l (k + 1)))) := by
        intro W v q h
        rw [HDF.out]
        rcases h with ⟨h1, h2⟩ | ⟨g', c', h1, h2, h3⟩
        · rw [h1]
          exact ⟨g, c, h2, hgc, own_below OS q (Nat.le_refl _)⟩
        · exact ⟨g', c', h1, h2, own_lower h3 (show V0.heap.size ≤ wr.heap.size by omega)⟩
      have HR1 : Hid (∀ W, Below wr.heap.size wr W → W.heap[w.heap.size + 1]? = some (.cells #[.int .i64 0, .slice none 0 0, .slice none 0 0] 27) ∧ W.ownsRow V0.heap.size 3 1 (.slice ya o.ol.length yc) o.ol.length (icells o.ol)) := fun W q => ⟨kept q hP1lt m1, own_below OO q (Nat.le_refl _)⟩
      have qq2 : wr.cell? ⟨Q, 2, none⟩ = some (.slice (some ⟨g, 0, none⟩) (delF o.sl l k).length c) := cell_at m2 2
      have HLR : Hid (∀ W, Below wr.heap.size wr W → Below w.heap.size w W) := fun W q => LR.trans (q.mono LR.size)
      go_wp2
      refine wp_region_held_drew (S := (fun w' => w'.cell? ⟨b, u + k * 6, none⟩ = some (.int .i64 p.dv) ∧ w'.cell? ⟨b, u + k * 6 + 1, none⟩ = some (.int .i64 p.no) ∧ w'.cell? ⟨b, u + k * 6 + 2, none⟩ = some (.int .i64 p.tk) ∧ w'.cell? ⟨b, u + k * 6 + 3, none⟩ = some (.int .i64 p.tr) ∧ w'.cell? ⟨b, u + k * 6 + 4, none⟩ = some (.int .i64 p.dy) ∧ w'.cell? ⟨b, u + k * 6 + 5, none⟩ = some (.int .i64 p.sa))) (by kernel_rfl) ?_ (fun hHeld => ?_)
      · exact HS.out _ (Below.refl _ _).drew
      refine wpAnyH_take (i := 0) (v := .pointer (some ⟨Q, 2, none⟩)) rfl (by kernel_rfl) (by kernel_rfl) (by kernel_rfl) (fun _ _ _ h => h) (Or.inl ⟨by kernel_rfl, fun w hSw => by first | (go_simp; done) | (dsimp only at hSw; obtain ⟨s0, s1, s2, s3, s4, s5⟩ := hSw; go_simp; done) | rfl⟩) (by assumption) ?_
      simp only [Act.put, List.getElem_toArray, List.getElem_cons_succ, List.getElem_cons_zero, List.setIfInBounds_toArray, List.set_cons_succ, List.set_cons_zero]
      refine wpAnyH_take (i := 2) (v := .slice (some ⟨b, u, none⟩) l.length cap) rfl (by kernel_rfl) (by kernel_rfl) (by kernel_rfl) (fun _ _ _ h => h) (Or.inl ⟨by kernel_rfl, fun w hSw => by first | (go_simp; done) | (dsimp only at hSw; obtain ⟨s0, s1, s2, s3, s4, s5⟩ := hSw; go_simp; done) | rfl⟩) (by assumption) ?_
      simp only [Act.put, List.getElem_toArray, List.getElem_cons_succ, List.getElem_cons_zero, List.setIfInBounds_toArray, List.set_cons_succ, List.set_cons_zero]
      refine wpAnyH_take (i := 3) (v := .int .i64 k) rfl (by kernel_rfl) (by kernel_rfl) (by kernel_rfl) (fun _ _ _ h => h) (Or.inl ⟨by kernel_rfl, fun w hSw => by first | (go_simp; done) | (dsimp only at hSw; obtain ⟨s0, s1, s2, s3, s4, s5⟩ := hSw; go_simp; done) | rfl⟩) (by assumption) ?_
      simp only [Act.put, List.getElem_toArray, List.getElem_cons_succ, List.getElem_cons_zero, List.setIfInBounds_toArray, List.set_cons_succ, List.set_cons_zero]
      refine wpAnyH_take (i := 4) (v := .pointer (some ⟨b, u + k * 6, none⟩)) rfl (by kernel_rfl) (by kernel_rfl) (by kernel_rfl) (fun _ _ _ h => h) (Or.inl ⟨by kernel_rfl, fun w hSw => by first | (go_simp; done) | (dsimp only at hSw; obtain ⟨s0, s1, s2, s3, s4, s5⟩ := hSw; go_simp; done) | rfl⟩) (by assumption) ?_
      simp only [Act.put, List.getElem_toArray, List.getElem_cons_succ, List.getElem_cons_zero, List.setIfInBounds_toArray, List.set_cons_succ, List.set_cons_zero]
      refine wpAnyH_take (i := 5) (v := lgV p) rfl (by kernel_rfl) (by kernel_rfl) (by kernel_rfl) (fun _ _ _ h => h) (Or.inl ⟨by kernel_rfl, fun w hSw => by first | (go_simp; done) | (dsimp only at hSw; obtain ⟨s0, s1, s2, s3, s4, s5⟩ := hSw; go_simp; done) | rfl⟩) (by assumption) ?_
      simp only [Act.put, List.getElem_toArray, List.getElem_cons_succ, List.getElem_cons_zero, List.setIfInBounds_toArray, List.set_cons_succ, List.set_cons_zero]
      refine wpAnyH_ready (rs := [1]) (by kernel_rfl) (by simp) ?_
      refine AllReadyH.cons rfl (fun K hK => ?_) AllReadyH.nil
      go_simp
      refine hK.out _ _ ?_ (fun hHeld2 => ?_)
      · exact HS.out _ (Below.refl _ _).drew
      clear hK K hHeld
      have hHeld := hHeld2
      clear hHeld2
      refine wpAnyH_ready (rs := [6]) (by kernel_rfl) (by simp) ?_
      refine AllReadyH.cons rfl (fun K hK => ?_) AllReadyH.nil
      go_simp
      go_wp2_with ((go_at_call 39; (with_reducible refine (HPV.out _ ?_).mono ?_); (exact OI.on (Below.refl _ _).drew); rintro e v5 ⟨v, rfl, hcase, Lv5⟩; have Kv5 := (Below.refl wr.heap.size wr).drew.trans Lv5; obtain ⟨g5, c5, hv5, hgc5, O5⟩ := HNX.out _ _ Kv5 hcase; subst hv5; have z0 := HQ.out _ Kv5; have q52 := cell_at z0 2; have f52 := frozen_at z0 2))
      refine hK.out _ _ ?_ (fun hHeld2 => ?_)
      · exact HS.out _ Kv5
      clear hK K hHeld
      have hHeld := hHeld2
      clear hHeld2
      refine wpAnyH_take (i := 7) (v := .pointer (some ⟨Q, 2, none⟩)) rfl (by kernel_rfl) (by kernel_rfl) (by kernel_rfl) (fun _ _ _ h => h) (Or.inl ⟨by kernel_rfl, fun w hSw => by first | (go_simp; done) | (dsimp only at hSw; obtain ⟨s0, s1, s2, s3, s4, s5⟩ := hSw; go_simp; done) | rfl⟩) (by assumption) ?_
      simp only [Act.put, List.getElem_toArray, List.getElem_cons_succ, List.getElem_cons_zero, List.setIfInBounds_toArray, List.set_cons_succ, List.set_cons_zero]
      refine wpAnyH_ready (rs := [8]) (by kernel_rfl) (by simp) ?_
      refine AllReadyH.cons rfl (fun K hK => ?_) AllReadyH.nil
      go_simp
      refine hK.out _ _ ?_ (fun hHeld2 => ?_)
      · exact HS2.out _ _ Kv5
      clear hK K hHeld
      have hHeld := hHeld2
      clear hHeld2
      refine wpAnyH_done (by kernel_rfl) ?_ _
      have L9 := (HLR.out _ Kv5).setCell (p := ⟨Q, 2, none⟩) (show w.heap.size ≤ Q by omega) (.slice (some ⟨g5, 0, none⟩) (delF o.sl l (k + 1)).length c5)
      have hP9 := h_other (g := Q) (i := 2) (HR1.out _ Kv5).1 (by omega) (.slice (some ⟨g5, 0, none⟩) (delF o.sl l (k + 1)).length c5)
      have hQ9 := h_set (i := 2) z0 (.slice (some ⟨g5, 0, none⟩) (delF o.sl l (k + 1)).length c5)
      have OO9 := own_typed (i := 2) (u := .slice (some ⟨g5, 0, none⟩) (delF o.sl l (k + 1)).length c5) (HR1.out _ Kv5).2 z0 (by decide)
      have OS9 := own_typed (i := 2) (u := .slice (some ⟨g5, 0, none⟩) (delF o.sl l (k + 1)).length c5) O5 z0 (by decide)
      go_wp2
      go_roundw
      case rel => exact ⟨k + 1, g5, c5, by omega, by go_num, L9, hP9, hQ9, hgc5, OO9, OS9⟩
      case measure => simp [intOf]; omega
    · obtain rfl : k = l.length := by omega
      have e0 : wr.cell? ⟨w.heap.size + 1, 0, none⟩ = some (.int .i64 0) := cell_at m1 0
      have e1 : wr.cell? ⟨w.heap.size + 1, 1, none⟩ = some (.slice none 0 0) := cell_at m1 1
      have e2 : wr.cell? ⟨w.heap.size + 1, 2, none⟩ = some (.slice none 0 0) := cell_at m1 2
      have f0 : wr.frozen? ⟨w.heap.size + 1, 0, none⟩ = false := frozen_at m1 0
      have f1 : wr.frozen? ⟨w.heap.size + 1, 1, none⟩ = false := frozen_at m1 1
      have f2 : wr.frozen? ⟨w.heap.size + 1, 2, none⟩ = false := frozen_at m1 2
      have g0 : wr.cell? ⟨Q, 0, none⟩ = some (.int .i64 o.ve) := cell_at m2 0
      have g1 : wr.cell? ⟨Q, 1, none⟩ = some (.slice ya o.ol.length yc) := cell_at m2 1
      have g2 : wr.cell? ⟨Q, 2, none⟩ = some (.slice (some ⟨g, 0, none⟩) (delF o.sl l l.length).length c) := cell_at m2 2
      have HFIN : Hid (∀ W, Sw (w.heap.size + 1) (w.heap.size) wr W → Copied w.heap.size W ⟨ya, yc, some ⟨g, 0, none⟩, c⟩ (delO true o l)) := fun W s => ⟨own_lower (s.own OO (by omega) (by omega)) (by omega), own_lower (s.own OS (by omega) (by omega)) (by omega)⟩
      have HB : Hid (∀ W, Below w.heap.size wr W → Below w.heap.size w W) := fun W q => LR.trans q
      have HL : Hid (w.heap.size + 1 + 1 ≤ Q) := by show _ ≤ _; omega
      clear m1 m2 OO OS LR hg hl1 I J
      go_wp2
      refine bodyPost_ret (v := ceV ⟨ya, yc, some ⟨g, 0, none⟩, c⟩ (⟨o.ve, o.ol, delF o.sl l l.length⟩)) (by simp [results, Try.results12, go_sem, e0, e1, e2]) rfl ?_
      refine ⟨⟨ya, yc, some ⟨g, 0, none⟩, c⟩, by rw [HV.out] <;> rfl, ?_, HYA.out, ⟨g, rfl⟩, HB.out _ ?_⟩
      · rw [HV.out]
        refine HFIN.out _ ?_
        (repeat' (first | with_reducible exact Sw.refl _ _ _ | with_reducible apply Sw.one | with_reducible apply Sw.two))
      · (repeat' (first | apply Below.setCell | exact Below.refl _ _)) <;> first | (simp; done) | (have := HL.out; simp; omega)

theorem specDel_flat (x : Pl) (o : Ctr) (a : Option Addr) (l : List Ct) (cap : Nat) (w : World) (hz : o.ol.length ≤ 1048576) (hz2 : o.sl.length ≤ 1048576) (hz3 : l.length ≤ 1048576) (I : In w x o) (fl : Flat x) (J : Controls w a l) :
    Calls Try.prog 12 #[ceV x o, .slice a l.length cap] w fun e w' => ∃ y, e = .returned (ceV y (delO (cenB o) o l)) ∧ Copied w.heap.size w' y (delO (cenB o) o l) ∧ (∃ g, y.a = some ⟨g, 0, none⟩) ∧ (∃ g, y.b = some ⟨g, 0, none⟩) ∧ Below w.heap.size w w' := specDel_gen x o a l cap w hz hz2 hz3 I (fun W h => specCopy_some x o W hz hz2 h fl) J

theorem specDel_nil (ve : Int) (a : Option Addr) (l : List Ct) (cap : Nat) (w : World) (hz3 : l.length ≤ 1048576) (J : Controls w a l) :
    Calls Try.prog 12 #[ceV ⟨none, 0, none, 0⟩ ⟨ve, [], []⟩, .slice a l.length cap] w fun e w' => ∃ y, e = .returned (ceV y (delO (cenB ⟨ve, [], []⟩) ⟨ve, [], []⟩ l)) ∧ Copied w.heap.size w' y (delO (cenB ⟨ve, [], []⟩) ⟨ve, [], []⟩ l) ∧ (∃ g, y.a = some ⟨g, 0, none⟩) ∧ (∃ g, y.b = some ⟨g, 0, none⟩) ∧ Below w.heap.size w w' := specDel_gen ⟨none, 0, none, 0⟩ ⟨ve, [], []⟩ a l cap w (Nat.zero_le _) (Nat.zero_le _) hz3 ⟨Or.inl rfl, Or.inl rfl⟩ (fun W h => specCopy_nil ve W) J

theorem specDel_val (x : Pl) (o : Ctr) (a : Option Addr) (l : List Ct) (cap : Nat) (w : World) (hz : o.ol.length ≤ 1048576) (hz2 : o.sl.length ≤ 1048576) (hz3 : l.length ≤ 1048576) (I : In w x o) (fl : Flat x) (J : Controls w a l) :
    Calls Try.prog 12 #[ceV x o, .slice a l.length cap] w fun e w' => ∃ y, e = .returned (ceV y (delO (cenB o) o l)) ∧ Copied w.heap.size w' y (delO (cenB o) o l) ∧ Below w.heap.size w w' := (specDel_flat x o a l cap w hz hz2 hz3 I fl J).mono fun _ _ ⟨y, h1, h2, _, _, h3⟩ => ⟨y, h1, h2, h3⟩

end Hn
end Go.Proofs.Ytbmfhdlbbaabgaa

/- The law of unions, at a code that is not too long. -/
import Derived.Test.YtbmfhdlbbaabgaaCurCe5
import Derived.Test.YtbmfhdlbbaabgaaCeSame
import Derived.Test.YtbmfhdlbbaabgaaCeDel
import Derived.Test.YtbmfhdlbbaabgaaCePick
import Derived.Test.YtbmfhdlbbaabgaaCurNum
import Derived.Deep.RegionHeld3
namespace Go.Proofs.Ytbmfhdlbbaabgaa
namespace Hn
open Go.ChangeShapes Go.WideShapes Go.ChangeAt Go.RowKit Go.Joins
open Pk (new_below join_below cell_at heap_new frozen_at lt_of kept heap_old Drawn info_of Room own_form own_below)
open Cur (Is Moved Bytes Kb new_any below_any)
set_option linter.unusedSimpArgs false
set_option linter.unusedVariables false

theorem del_len (b : Bool) (o : Ctr) (m : List Ct) (h1 : o.ol.length ≤ 200000) (h2 : o.sl.length ≤ 200000) (hm : m.length ≤ 9) : (delO b o m).ol.length ≤ 1048576 ∧ (delO b o m).sl.length ≤ 1048576 := by
  cases b
  · rw [del_no]; exact ⟨by omega, by omega⟩
  · rw [del_yes]
    have := (del_size o m).2
    exact ⟨by show o.ol.length ≤ _; omega, by show (delF o.sl m m.length).length ≤ _; omega⟩

theorem del_wf {b : Bool} {o : Ctr} {m : List Ct} (h1 : Wfs o.sl) (h2 : Wfs m) : Wfs (delO b o m).sl := by
  cases b
  · exact h1
  · exact del_wfs h1 h2 _

set_option maxRecDepth 100000 in
set_option maxHeartbeats 8000000 in
theorem union_law (a : Option Addr) (n cap : Nat) (w1 : World) (hb : n ≤ 1048576) (BY : Bytes w1 a n) :
    Calls Try.prog 3 #[.slice a n cap] w1 fun e w' => e = .returned (.bool true) ∧ Below w1.heap.size w1 w' := by
  go_enter Try.func3, Try.ntmps3
  go_wp2_with fail
  refine (Cur.big_no a n cap _ hb).mono ?_
  rintro e w1 ⟨rfl, rfl⟩
  go_wp2_with fail
  refine (drawDeliver _ a n cap hb BY).mono ?_
  rintro e w2 ⟨⟨y, o, la, l, lc, rfl, D, DL⟩, BL⟩
  replace BY := BY.on BL
  have HZ3 : Hid ((delO (cenB o) o l).ol.length ≤ 1048576 ∧ (delO (cenB o) o l).sl.length ≤ 1048576) := del_len _ o l D.nl D.ns DL.len
  have HWF3 : Hid (Wfs (delO (cenB o) o l).sl) := del_wf D.wf DL.wf
  have HLW : Hid (Wfs l ∧ l.length ≤ 9) := ⟨DL.wf, DL.len⟩
  have HLA : Hid (At la l.length lc) := own_at' DL.own
  have HDI : Hid (∀ W : World, Drw w1.heap.size W y o → DrwL w1.heap.size W la l lc → _) := fun W h g => implDel_at y o la l lc W (by have := h.nl; omega) (by have := h.ns; omega) (by have := g.len; omega) h.wf g.wf h.cp.in h.flat.fl HLA.out g.in
  have HDS : Hid (∀ W : World, Drw w1.heap.size W y o → DrwL w1.heap.size W la l lc → _) := fun W h g => specDel_val y o la l lc W (by have := h.nl; omega) (by have := h.ns; omega) (by have := g.len; omega) h.cp.in h.flat g.in
  have HCI : Hid (∀ W : World, Drw w1.heap.size W y o → _) := fun W h => implCentre_val y o W (by have := h.nl; omega) (by have := h.ns; omega) h.cp.in
  have HCS : Hid (∀ W : World, Drw w1.heap.size W y o → _) := fun W h => specCentre_val y o W (by have := h.nl; omega) (by have := h.ns; omega) h.cp.in
  obtain ⟨rb, hrb⟩ : ∃ b, cenB o = b := ⟨_, rfl⟩
  obtain ⟨o3, ho3⟩ : ∃ x, delO rb o l = x := ⟨_, rfl⟩
  simp only [hrb, ho3] at HDI HDS HZ3 HCI HCS HWF3
  have HRB : Hid (cenB o = rb) := hrb
  have HO3 : Hid (delO rb o l = o3) := ho3
  clear hrb ho3
  have NA := new_below w2 (ceB y o 27)
  have q1 := heap_new w2 (ceB y o 27)
  replace BL := join_below BL NA
  replace BY := BY.on NA
  replace D := D.on NA
  replace DL := DL.on NA
  clear NA
  go_wp2_with fail
  generalize w2.heap.size = P1 at *
  generalize w2.alloc (ceB y o 27) = W3 at *
  refine (drawPick _ a n cap hb BY).mono ?_
  rintro e w4 ⟨⟨ga, gl, gc, pa, ps, pc, rfl, DG, JP, hps⟩, L⟩
  replace BL := join_below BL L
  replace BY := BY.on L
  replace D := D.on L
  replace DL := DL.on L
  replace q1 := kept L (lt_of q1) q1
  clear L
  have HPI : Hid (∀ W : World, Controls W ga gl → Ints W pa ps → _) := fun W h j => implPick_val ga gl gc pa ps pc W (by have := DG.len; omega) (by omega) h j
  have HPS : Hid (∀ W : World, Controls W ga gl → Ints W pa ps → _) := fun W h j => specPick_val ga gl gc pa ps pc W (by have := DG.len; omega) (by omega) h j
  have HPL : Hid ((pickL gl ps).length ≤ 1048576) := by have := pick_len gl ps; show _ ≤ _; omega
  have JG := DG.in
  clear DG hps
  generalize pickL gl ps = pk at *
  go_wp2_with fail
  refine (HPI.out _ JG JP).mono ?_
  rintro e w5 ⟨v5, rfl, O5, L⟩
  obtain ⟨r5, t5, rfl, J5⟩ := own_ctls O5
  clear O5
  replace BL := join_below BL L
  replace BY := BY.on L
  replace D := D.on L
  replace DL := DL.on L
  replace q1 := kept L (lt_of q1) q1
  replace JG := JG.on L
  replace JP := JP.on L
  clear L
  go_wp2_with fail
  refine (HPS.out _ JG JP).mono ?_
  rintro e w6 ⟨v6, rfl, O6, L⟩
  obtain ⟨r6, t6, rfl, J6⟩ := own_ctls O6
  clear O6
  replace BL := join_below BL L
  replace BY := BY.on L
  replace D := D.on L
  replace DL := DL.on L
  replace q1 := kept L (lt_of q1) q1
  replace JG := JG.on L
  replace JP := JP.on L
  replace J5 := J5.on L
  clear L
  go_wp2_with fail
  refine (sameControls_same r5 r6 pk t5 t6 w6 HPL.out J5 J6).mono ?_
  rintro e w7 ⟨rfl, DR⟩
  have L := DR.below w6.heap.size
  clear DR J6
  replace BL := join_below BL L
  replace BY := BY.on L
  replace D := D.on L
  replace DL := DL.on L
  replace q1 := kept L (lt_of q1) q1
  replace JG := JG.on L
  replace JP := JP.on L
  replace J5 := J5.on L
  clear L JG JP J5 HPI HPS HPL
  have a0 : w7.cell? ⟨P1, 0, none⟩ = some (.int .i64 o.ve) := cell_at q1 0
  have a1 : w7.cell? ⟨P1, 1, none⟩ = some (.slice y.a o.ol.length y.c) := cell_at q1 1
  have a2 : w7.cell? ⟨P1, 2, none⟩ = some (.slice y.b o.sl.length y.d) := cell_at q1 2
  go_wp2_with fail
  clear a0 a1 a2
  refine (HDI.out _ D DL).mono ?_
  rintro e w8 ⟨y3, rfl, E3, L⟩
  replace BL := join_below BL L
  replace BY := BY.on L
  replace D := D.on L
  replace DL := DL.on L
  replace q1 := kept L (lt_of q1) q1
  clear L
  have NA := new_below w8 (ceB y3 o3 27)
  have q3 := heap_new w8 (ceB y3 o3 27)
  replace BL := join_below BL NA
  replace BY := BY.on NA
  replace D := D.on NA
  replace DL := DL.on NA
  replace q1 := kept NA (lt_of q1) q1
  replace E3 := E3.on NA
  clear NA
  have a0 : (w8.alloc (ceB y3 o3 27)).cell? ⟨P1, 0, none⟩ = some (.int .i64 o.ve) := cell_at q1 0
  have a1 : (w8.alloc (ceB y3 o3 27)).cell? ⟨P1, 1, none⟩ = some (.slice y.a o.ol.length y.c) := cell_at q1 1
  have a2 : (w8.alloc (ceB y3 o3 27)).cell? ⟨P1, 2, none⟩ = some (.slice y.b o.sl.length y.d) := cell_at q1 2
  go_wp2_with fail
  clear a0 a1 a2
  generalize w8.heap.size = P3 at *
  generalize w8.alloc (ceB y3 o3 27) = W9 at *
  refine (HDS.out _ D DL).mono ?_
  rintro e v1 ⟨y4, rfl, E4, L⟩
  replace BL := join_below BL L
  replace BY := BY.on L
  replace D := D.on L
  replace DL := DL.on L
  replace q1 := kept L (lt_of q1) q1
  replace E3 := E3.on L
  replace q3 := kept L (lt_of q3) q3
  clear L
  have NA := new_below v1 (ceB y4 o3 27)
  have q4 := heap_new v1 (ceB y4 o3 27)
  replace BL := join_below BL NA
  replace BY := BY.on NA
  replace D := D.on NA
  replace DL := DL.on NA
  replace q1 := kept NA (lt_of q1) q1
  replace E3 := E3.on NA
  replace q3 := kept NA (lt_of q3) q3
  replace E4 := E4.on NA
  clear NA
  go_wp2
  generalize v1.heap.size = P4 at *
  generalize v1.alloc (ceB y4 o3 27) = V at *
  have HS : Hid (∀ W, Below V.heap.size V W → (fun w' : World => w'.cell? ⟨P1, 0, none⟩ = some (.int .i64 o.ve) ∧ w'.cell? ⟨P1, 1, none⟩ = some (.slice y.a o.ol.length y.c) ∧ w'.cell? ⟨P1, 2, none⟩ = some (.slice y.b o.sl.length y.d) ∧ w'.cell? ⟨P3, 2, none⟩ = some (.slice y3.b o3.sl.length y3.d) ∧ w'.cell? ⟨P4, 2, none⟩ = some (.slice y4.b o3.sl.length y4.d)) W) := fun W h => ⟨cell_at (kept h (lt_of q1) q1) 0, cell_at (kept h (lt_of q1) q1) 1, cell_at (kept h (lt_of q1) q1) 2, cell_at (kept h (lt_of q3) q3) 2, cell_at (kept h (lt_of q4) q4) 2⟩
  have HI : Hid (∀ W, Below V.heap.size V W → Drw w1.heap.size W y o) := fun W h => D.on h
  have HJ3 : Hid (∀ W, Below V.heap.size V W → Controls W y3.b o3.sl) := fun W h => (E3.on h).in.seen
  have HJ4 : Hid (∀ W, Below V.heap.size V W → Controls W y4.b o3.sl) := fun W h => (E4.on h).in.seen
  have K0 := (Below.refl V.heap.size V).drew
  refine wp_region_held_drew (S := (fun w' : World => w'.cell? ⟨P1, 0, none⟩ = some (.int .i64 o.ve) ∧ w'.cell? ⟨P1, 1, none⟩ = some (.slice y.a o.ol.length y.c) ∧ w'.cell? ⟨P1, 2, none⟩ = some (.slice y.b o.sl.length y.d) ∧ w'.cell? ⟨P3, 2, none⟩ = some (.slice y3.b o3.sl.length y3.d) ∧ w'.cell? ⟨P4, 2, none⟩ = some (.slice y4.b o3.sl.length y4.d))) (by kernel_rfl) ?_ (fun hHeld => ?_)
  · exact HS.out _ K0
  refine wpAnyH_take (i := 0) (v := .pointer (some ⟨P3, 2, none⟩)) rfl (by kernel_rfl) (by kernel_rfl) (by kernel_rfl) (fun _ _ _ h => h) (Or.inl ⟨by kernel_rfl, fun w hSw => by first | (go_simp; done) | (dsimp only at hSw; obtain ⟨s0, s1, s2, s3, s4⟩ := hSw; go_simp; done) | rfl⟩) (by assumption) ?_
  simp only [Act.put, List.getElem_toArray, List.getElem_cons_succ, List.getElem_cons_zero, List.setIfInBounds_toArray, List.set_cons_succ, List.set_cons_zero]
  refine wpAnyH_take (i := 1) (v := .slice y3.b o3.sl.length y3.d) rfl (by kernel_rfl) (by kernel_rfl) (by kernel_rfl) (fun _ _ _ h => h) (Or.inl ⟨by kernel_rfl, fun w hSw => by first | (go_simp; done) | (dsimp only at hSw; obtain ⟨s0, s1, s2, s3, s4⟩ := hSw; go_simp; done) | rfl⟩) (by assumption) ?_
  simp only [Act.put, List.getElem_toArray, List.getElem_cons_succ, List.getElem_cons_zero, List.setIfInBounds_toArray, List.set_cons_succ, List.set_cons_zero]
  refine wpAnyH_take (i := 2) (v := .pointer (some ⟨P4, 2, none⟩)) rfl (by kernel_rfl) (by kernel_rfl) (by kernel_rfl) (fun _ _ _ h => h) (Or.inl ⟨by kernel_rfl, fun w hSw => by first | (go_simp; done) | (dsimp only at hSw; obtain ⟨s0, s1, s2, s3, s4⟩ := hSw; go_simp; done) | rfl⟩) (by assumption) ?_
  simp only [Act.put, List.getElem_toArray, List.getElem_cons_succ, List.getElem_cons_zero, List.setIfInBounds_toArray, List.set_cons_succ, List.set_cons_zero]
  refine wpAnyH_take (i := 3) (v := .slice y4.b o3.sl.length y4.d) rfl (by kernel_rfl) (by kernel_rfl) (by kernel_rfl) (fun _ _ _ h => h) (Or.inl ⟨by kernel_rfl, fun w hSw => by first | (go_simp; done) | (dsimp only at hSw; obtain ⟨s0, s1, s2, s3, s4⟩ := hSw; go_simp; done) | rfl⟩) (by assumption) ?_
  simp only [Act.put, List.getElem_toArray, List.getElem_cons_succ, List.getElem_cons_zero, List.setIfInBounds_toArray, List.set_cons_succ, List.set_cons_zero]
  refine wpAnyH_ready (rs := [4]) (by kernel_rfl) (by simp) ?_
  refine AllReadyH.cons rfl (fun K hK => ?_) AllReadyH.nil
  go_simp
  go_wp2_with ((go_at_call 8; (with_reducible refine (sameControls_same y3.b y4.b o3.sl y3.d y4.d _ HZ3.out.2 ?_ ?_).mono ?_); (exact HJ3.out _ K0); (exact HJ4.out _ K0); rintro e u1 ⟨rfl, G1⟩; have K1 := join_below K0 (G1.below _)))
  refine hK.out _ _ ?_ (fun hHeld2 => ?_)
  · exact HS.out _ K1
  clear hK K hHeld
  have hHeld := hHeld2
  clear hHeld2
  refine wpAnyH_take (i := 5) (v := .bool false) rfl (by kernel_rfl) (by kernel_rfl) (by kernel_rfl) (fun _ _ _ h => h) (Or.inl ⟨by kernel_rfl, fun w hSw => by first | (go_simp; done) | (dsimp only at hSw; obtain ⟨s0, s1, s2, s3, s4⟩ := hSw; go_simp; done) | rfl⟩) (by assumption) ?_
  simp only [Act.put, List.getElem_toArray, List.getElem_cons_succ, List.getElem_cons_zero, List.setIfInBounds_toArray, List.set_cons_succ, List.set_cons_zero]
  refine wpAnyH_take (i := 6) (v := .bool false) rfl (by kernel_rfl) (by kernel_rfl) (by kernel_rfl) (fun _ _ _ h => h) (Or.inl ⟨by kernel_rfl, fun w hSw => by first | (go_simp; done) | (dsimp only at hSw; obtain ⟨s0, s1, s2, s3, s4⟩ := hSw; go_simp; done) | rfl⟩) (by assumption) ?_
  simp only [Act.put, List.getElem_toArray, List.getElem_cons_succ, List.getElem_cons_zero, List.setIfInBounds_toArray, List.set_cons_succ, List.set_cons_zero]
  refine wpAnyH_take (i := 7) (v := ceV y o) rfl (by kernel_rfl) (by kernel_rfl) (by kernel_rfl) (fun _ _ _ h => h) (Or.inl ⟨by kernel_rfl, fun w hSw => by first | (go_simp; done) | (dsimp only at hSw; obtain ⟨s0, s1, s2, s3, s4⟩ := hSw; go_simp; done) | rfl⟩) (by assumption) ?_
  simp only [Act.put, List.getElem_toArray, List.getElem_cons_succ, List.getElem_cons_zero, List.setIfInBounds_toArray, List.set_cons_succ, List.set_cons_zero]
  refine wpAnyH_take (i := 9) (v := ceV y o) rfl (by kernel_rfl) (by kernel_rfl) (by kernel_rfl) (fun _ _ _ h => h) (Or.inl ⟨by kernel_rfl, fun w hSw => by first | (go_simp; done) | (dsimp only at hSw; obtain ⟨s0, s1, s2, s3, s4⟩ := hSw; go_simp; done) | rfl⟩) (by assumption) ?_
  simp only [Act.put, List.getElem_toArray, List.getElem_cons_succ, List.getElem_cons_zero, List.setIfInBounds_toArray, List.set_cons_succ, List.set_cons_zero]
  refine wpAnyH_ready (rs := [8]) (by kernel_rfl) (by simp) ?_
  refine AllReadyH.cons rfl (fun K hK => ?_) AllReadyH.nil
  go_simp
  go_wp2_with ((go_at_call 13; (with_reducible refine (HCI.out _ ?_).mono ?_); (exact HI.out _ K1); rintro e u2 ⟨rfl, L2⟩; have K2 := join_below K1 L2))
  refine hK.out _ _ ?_ (fun hHeld2 => ?_)
  · exact HS.out _ K2
  clear hK K hHeld
  have hHeld := hHeld2
  clear hHeld2
  refine wpAnyH_ready (rs := [10]) (by kernel_rfl) (by simp) ?_
  refine AllReadyH.cons rfl (fun K hK => ?_) AllReadyH.nil
  go_simp
  go_wp2_with ((go_at_call 14; (with_reducible refine (HCS.out _ ?_).mono ?_); (exact HI.out _ K2); rintro e u3 ⟨rfl, L3⟩; have K3 := join_below K2 L3))
  refine hK.out _ _ ?_ (fun hHeld2 => ?_)
  · exact HS.out _ K3
  clear hK K hHeld
  have hHeld := hHeld2
  clear hHeld2
  refine wpAnyH_take (i := 11) (v := .bool false) rfl (by kernel_rfl) (by kernel_rfl) (by kernel_rfl) (fun _ _ _ h => h) (Or.inl ⟨by kernel_rfl, fun w hSw => by first | (go_simp; done) | (dsimp only at hSw; obtain ⟨s0, s1, s2, s3, s4⟩ := hSw; go_simp; done) | rfl⟩) (by assumption) ?_
  simp only [Act.put, List.getElem_toArray, List.getElem_cons_succ, List.getElem_cons_zero, List.setIfInBounds_toArray, List.set_cons_succ, List.set_cons_zero]
  refine wpAnyH_take (i := 12) (v := .bool false) rfl (by kernel_rfl) (by kernel_rfl) (by kernel_rfl) (fun _ _ _ h => h) (Or.inl ⟨by kernel_rfl, fun w hSw => by first | (go_simp; done) | (dsimp only at hSw; obtain ⟨s0, s1, s2, s3, s4⟩ := hSw; go_simp; done) | rfl⟩) (by assumption) ?_
  simp only [Act.put, List.getElem_toArray, List.getElem_cons_succ, List.getElem_cons_zero, List.setIfInBounds_toArray, List.set_cons_succ, List.set_cons_zero]
  refine wpAnyH_done (by kernel_rfl) ?_ _
  have LV := K3
  clear HS HI HJ3 HJ4 hHeld HCI E4 q4
  replace BL := join_below BL LV
  replace BY := BY.on LV
  replace D := D.on LV
  replace DL := DL.on LV
  replace q1 := kept LV (lt_of q1) q1
  replace E3 := E3.on LV
  replace q3 := kept LV (lt_of q3) q3
  clear LV K0 K1 K2 K3
  have a0 : u3.cell? ⟨P1, 0, none⟩ = some (.int .i64 o.ve) := cell_at q1 0
  have a1 : u3.cell? ⟨P1, 1, none⟩ = some (.slice y.a o.ol.length y.c) := cell_at q1 1
  have a2 : u3.cell? ⟨P1, 2, none⟩ = some (.slice y.b o.sl.length y.d) := cell_at q1 2
  go_wp2_with fail
  clear a0 a1 a2
  refine (HCS.out _ D).mono ?_
  rintro e u4 ⟨rfl, L⟩
  clear HCS
  replace BL := join_below BL L
  replace BY := BY.on L
  replace D := D.on L
  replace DL := DL.on L
  replace q1 := kept L (lt_of q1) q1
  replace E3 := E3.on L
  replace q3 := kept L (lt_of q3) q3
  clear L
  cases rb
  · have hoo : o = o3 := HO3.out
    subst hoo
    have a2 : u4.cell? ⟨P3, 2, none⟩ = some (.slice y3.b o.sl.length y3.d) := cell_at q3 2
    have b2 : u4.cell? ⟨P1, 2, none⟩ = some (.slice y.b o.sl.length y.d) := cell_at q1 2
    go_wp2_with fail
    refine (sameControls_same y3.b y.b o.sl y3.d y.d u4 HZ3.out.2 E3.in.seen D.cp.in.seen).mono ?_
    rintro e u5 ⟨rfl, DR⟩
    have L := DR.below u4.heap.size
    clear DR a2 b2
    replace BL := join_below BL L
    replace BY := BY.on L
    replace D := D.on L
    replace DL := DL.on L
    replace q1 := kept L (lt_of q1) q1
    replace E3 := E3.on L
    replace q3 := kept L (lt_of q3) q3
    go_wp2
    go_ret
    exact ⟨rfl, BL⟩
  · have hoo : o3 = ⟨o.ve, o.ol, delF o.sl l l.length⟩ := HO3.out.symm
    have HCD : Hid (cenB o3 = true) := by
      show _ = _
      have h := cen_del l HRB.out
      rw [← HO3.out]
      exact h
    have HSL : Hid (o3.sl = delF o.sl l l.length) := by show _ = _; rw [hoo]
    clear hoo
    have HCV : Hid (∀ W : World, In W y3 o3 → _) := fun W h => implCentre_val y3 o3 W HZ3.out.1 HZ3.out.2 h
    have hcd := HCD.out
    simp only [hcd] at HCV
    clear hcd
    have a0 : u4.cell? ⟨P3, 0, none⟩ = some (.int .i64 o3.ve) := cell_at q3 0
    have a1 : u4.cell? ⟨P3, 1, none⟩ = some (.slice y3.a o3.ol.length y3.c) := cell_at q3 1
    have a2 : u4.cell? ⟨P3, 2, none⟩ = some (.slice y3.b o3.sl.length y3.d) := cell_at q3 2
    by_cases hge : (600 : Int) ≤ (o3.sl.length : Int)
    · have dge : decide ((600 : Int) ≤ (o3.sl.length : Int)) = true := decide_eq_true hge
      go_wp2_with fail
      refine (HCV.out _ E3.in).mono ?_
      rintro e u5 ⟨rfl, L⟩
      clear a0 a1 a2
      replace BL := join_below BL L
      replace BY := BY.on L
      replace D := D.on L
      replace DL := DL.on L
      replace q1 := kept L (lt_of q1) q1
      replace E3 := E3.on L
      replace q3 := kept L (lt_of q3) q3
      go_wp2
      go_ret
      exact ⟨rfl, BL⟩
    have dge : decide ((600 : Int) ≤ (o3.sl.length : Int)) = false := decide_eq_false hge
    have hlt : o3.sl.length < 600 := by omega
    have HDD : Hid (delO (cenB o3) o3 l = o3) := by
      show _ = _
      have h2 := del_again l HRB.out (by rw [← HSL.out]; exact hlt)
      rw [HCD.out, del_yes]
      have h3 : delF o3.sl l l.length = o3.sl := by rw [HSL.out]; exact h2
      rw [h3]
    have HDA : Hid (∀ W : World, Copied w7.heap.size W y3 o3 → DrwL w1.heap.size W la l lc → _) := fun W h g => implDel_at y3 o3 la l lc W HZ3.out.1 HZ3.out.2 (by have := g.len; omega) HWF3.out g.wf h.in h.fl HLA.out g.in
    have hdd := HDD.out
    simp only [hdd] at HDA
    clear hdd
    go_wp2
    clear a0 a1 a2 dge
    have HS : Hid (∀ W, Below u4.heap.size u4 W → (fun w' : World => w'.cell? ⟨P3, 0, none⟩ = some (.int .i64 o3.ve) ∧ w'.cell? ⟨P3, 1, none⟩ = some (.slice y3.a o3.ol.length y3.c) ∧ w'.cell? ⟨P3, 2, none⟩ = some (.slice y3.b o3.sl.length y3.d)) W) := fun W h => ⟨cell_at (kept h (lt_of q3) q3) 0, cell_at (kept h (lt_of q3) q3) 1, cell_at (kept h (lt_of q3) q3) 2⟩
    have HE : Hid (∀ W, Below u4.heap.size u4 W → Copied w7.heap.size W y3 o3) := fun W h => E3.on h
    have HG : Hid (∀ W, Below u4.heap.size u4 W → DrwL w1.heap.size W la l lc) := fun W h => DL.on h
    have K0 := (Below.refl u4.heap.size u4).drew
    refine wp_region_held_drew (S := (fun w' : World => w'.cell? ⟨P3, 0, none⟩ = some (.int .i64 o3.ve) ∧ w'.cell? ⟨P3, 1, none⟩ = some (.slice y3.a o3.ol.length y3.c) ∧ w'.cell? ⟨P3, 2, none⟩ = some (.slice y3.b o3.sl.length y3.d))) (by kernel_rfl) ?_ (fun hHeld => ?_)
    · exact HS.out _ K0
    refine wpAnyH_take (i := 0) (v := ceV y3 o3) rfl (by kernel_rfl) (by kernel_rfl) (by kernel_rfl) (fun _ _ _ h => h) (Or.inl ⟨by kernel_rfl, fun w hSw => by first | (go_simp; done) | (dsimp only at hSw; obtain ⟨s0, s1, s2⟩ := hSw; go_simp; done) | rfl⟩) (by assumption) ?_
    simp only [Act.put, List.getElem_toArray, List.getElem_cons_succ, List.getElem_cons_zero, List.setIfInBounds_toArray, List.set_cons_succ, List.set_cons_zero]
    refine wpAnyH_take (i := 1) (v := .slice la l.length lc) rfl (by kernel_rfl) (by kernel_rfl) (by kernel_rfl) (fun _ _ _ h => h) (Or.inl ⟨by kernel_rfl, fun w hSw => by first | (go_simp; done) | (dsimp only at hSw; obtain ⟨s0, s1, s2⟩ := hSw; go_simp; done) | rfl⟩) (by assumption) ?_
    simp only [Act.put, List.getElem_toArray, List.getElem_cons_succ, List.getElem_cons_zero, List.setIfInBounds_toArray, List.set_cons_succ, List.set_cons_zero]
    refine wpAnyH_take (i := 4) (v := .pointer (some ⟨P3, 2, none⟩)) rfl (by kernel_rfl) (by kernel_rfl) (by kernel_rfl) (fun _ _ _ h => h) (Or.inl ⟨by kernel_rfl, fun w hSw => by first | (go_simp; done) | (dsimp only at hSw; obtain ⟨s0, s1, s2⟩ := hSw; go_simp; done) | rfl⟩) (by assumption) ?_
    simp only [Act.put, List.getElem_toArray, List.getElem_cons_succ, List.getElem_cons_zero, List.setIfInBounds_toArray, List.set_cons_succ, List.set_cons_zero]
    refine wpAnyH_take (i := 5) (v := .slice y3.b o3.sl.length y3.d) rfl (by kernel_rfl) (by kernel_rfl) (by kernel_rfl) (fun _ _ _ h => h) (Or.inl ⟨by kernel_rfl, fun w hSw => by first | (go_simp; done) | (dsimp only at hSw; obtain ⟨s0, s1, s2⟩ := hSw; go_simp; done) | rfl⟩) (by assumption) ?_
    simp only [Act.put, List.getElem_toArray, List.getElem_cons_succ, List.getElem_cons_zero, List.setIfInBounds_toArray, List.set_cons_succ, List.set_cons_zero]
    refine wpAnyH_ready (rs := [2]) (by kernel_rfl) (by simp) ?_
    refine AllReadyH.cons rfl (fun K hK => ?_) AllReadyH.nil
    go_simp
    go_wp2_with ((go_at_call 11; (with_reducible refine (HDA.out _ ?_ ?_).mono ?_); (exact HE.out _ K0); (exact HG.out _ K0); rintro e u1 ⟨y5, rfl, E5, L1⟩; have K1 := join_below K0 L1))
    refine hK.out _ _ ?_ (fun hHeld2 => ?_)
    · exact HS.out _ K1
    clear hK K hHeld
    have hHeld := hHeld2
    clear hHeld2
    refine wpAnyH_take (i := 3) (v := .slice y5.b o3.sl.length y5.d) rfl (by kernel_rfl) (by kernel_rfl) (by kernel_rfl) (fun _ _ _ h => h) (Or.inl ⟨by kernel_rfl, fun w hSw => by first | (go_simp; done) | (dsimp only at hSw; obtain ⟨s0, s1, s2⟩ := hSw; go_simp; done) | rfl⟩) (by assumption) ?_
    simp only [Act.put, List.getElem_toArray, List.getElem_cons_succ, List.getElem_cons_zero, List.setIfInBounds_toArray, List.set_cons_succ, List.set_cons_zero]
    refine wpAnyH_ready (rs := [6]) (by kernel_rfl) (by simp) ?_
    refine AllReadyH.cons rfl (fun K hK => ?_) AllReadyH.nil
    go_simp
    go_wp2_with ((go_at_call 8; (with_reducible refine (sameControls_same y5.b y3.b o3.sl y5.d y3.d _ HZ3.out.2 E5.in.seen ?_).mono ?_); (exact (HE.out _ K1).in.seen); rintro e u2 ⟨rfl, G2⟩; have K2 := join_below K1 (G2.below _)))
    refine hK.out _ _ ?_ (fun hHeld2 => ?_)
    · exact HS.out _ K2
    clear hK K hHeld
    have hHeld := hHeld2
    clear hHeld2
    refine wpAnyH_take (i := 7) (v := .bool false) rfl (by kernel_rfl) (by kernel_rfl) (by kernel_rfl) (fun _ _ _ h => h) (Or.inl ⟨by kernel_rfl, fun w hSw => by first | (go_simp; done) | (dsimp only at hSw; obtain ⟨s0, s1, s2⟩ := hSw; go_simp; done) | rfl⟩) (by assumption) ?_
    simp only [Act.put, List.getElem_toArray, List.getElem_cons_succ, List.getElem_cons_zero, List.setIfInBounds_toArray, List.set_cons_succ, List.set_cons_zero]
    refine wpAnyH_take (i := 8) (v := .bool false) rfl (by kernel_rfl) (by kernel_rfl) (by kernel_rfl) (fun _ _ _ h => h) (Or.inl ⟨by kernel_rfl, fun w hSw => by first | (go_simp; done) | (dsimp only at hSw; obtain ⟨s0, s1, s2⟩ := hSw; go_simp; done) | rfl⟩) (by assumption) ?_
    simp only [Act.put, List.getElem_toArray, List.getElem_cons_succ, List.getElem_cons_zero, List.setIfInBounds_toArray, List.set_cons_succ, List.set_cons_zero]
    refine wpAnyH_take (i := 9) (v := ceV y3 o3) rfl (by kernel_rfl) (by kernel_rfl) (by kernel_rfl) (fun _ _ _ h => h) (Or.inl ⟨by kernel_rfl, fun w hSw => by first | (go_simp; done) | (dsimp only at hSw; obtain ⟨s0, s1, s2⟩ := hSw; go_simp; done) | rfl⟩) (by assumption) ?_
    simp only [Act.put, List.getElem_toArray, List.getElem_cons_succ, List.getElem_cons_zero, List.setIfInBounds_toArray, List.set_cons_succ, List.set_cons_zero]
    refine wpAnyH_ready (rs := [10]) (by kernel_rfl) (by simp) ?_
    refine AllReadyH.cons rfl (fun K hK => ?_) AllReadyH.nil
    go_simp
    go_wp2_with ((go_at_call 13; (with_reducible refine (HCV.out _ ?_).mono ?_); (exact (HE.out _ K2).in); rintro e u3 ⟨rfl, L3⟩; have K3 := join_below K2 L3))
    refine hK.out _ _ ?_ (fun hHeld2 => ?_)
    · exact HS.out _ K3
    clear hK K hHeld
    have hHeld := hHeld2
    clear hHeld2
    refine wpAnyH_take (i := 11) (v := .bool false) rfl (by kernel_rfl) (by kernel_rfl) (by kernel_rfl) (fun _ _ _ h => h) (Or.inl ⟨by kernel_rfl, fun w hSw => by first | (go_simp; done) | (dsimp only at hSw; obtain ⟨s0, s1, s2⟩ := hSw; go_simp; done) | rfl⟩) (by assumption) ?_
    simp only [Act.put, List.getElem_toArray, List.getElem_cons_succ, List.getElem_cons_zero, List.setIfInBounds_toArray, List.set_cons_succ, List.set_cons_zero]
    refine wpAnyH_take (i := 12) (v := .bool false) rfl (by kernel_rfl) (by kernel_rfl) (by kernel_rfl) (fun _ _ _ h => h) (Or.inl ⟨by kernel_rfl, fun w hSw => by first | (go_simp; done) | (dsimp only at hSw; obtain ⟨s0, s1, s2⟩ := hSw; go_simp; done) | rfl⟩) (by assumption) ?_
    simp only [Act.put, List.getElem_toArray, List.getElem_cons_succ, List.getElem_cons_zero, List.setIfInBounds_toArray, List.set_cons_succ, List.set_cons_zero]
    refine wpAnyH_done (by kernel_rfl) ?_ _
    have LV := K3
    have HONE : Hid (∀ (i : Nat) (hi : i < l.length), cntC l[i] o3.sl = 1) := fun i hi => by
      rw [HSL.out]
      exact del_one HRB.out (by rw [← HSL.out]; exact hlt) i hi
    have HSZ : Hid (o.sl.length ≤ o3.sl.length ∧ o3.sl.length ≤ o.sl.length + l.length) := by
      show _ ∧ _
      rw [HSL.out]
      exact del_size o l
    clear HS HE HG hHeld HDA HDD HCV HCD E5 HWF3 HO3 HSL HRB
    replace BL := join_below BL LV
    replace BY := BY.on LV
    replace D := D.on LV
    replace DL := DL.on LV
    replace q1 := kept LV (lt_of q1) q1
    replace E3 := E3.on LV
    replace q3 := kept LV (lt_of q3) q3
    clear LV K0 K1 K2 K3
    have J3 : Controls u3 y3.b o3.sl := E3.in.seen
    have JL : Controls u3 la l := DL.in
    have hll : l.length ≤ 9 := HLW.out.2
    have a2 : u3.cell? ⟨P3, 2, none⟩ = some (.slice y3.b o3.sl.length y3.d) := cell_at q3 2
    have b2 : u3.cell? ⟨P1, 2, none⟩ = some (.slice y.b o.sl.length y.d) := cell_at q1 2
    have hns : o.sl.length ≤ 200000 := D.ns
    have HBL : Hid (Below w1.heap.size w1 u3) := BL
    clear E3 DL D q1 q3 BL BY HLW HLA HZ3
    go_wp2
    go_loopw [9] (fun i wr => ∃ (k q : Nat), k ≤ l.length ∧ i = .int .i64 k ∧ wr = u3.drewN q) (fun i _ => l.length - (intOf i).toNat)
    case atStart => exact ⟨0, 0, by omega, rfl, rfl⟩
    case round =>
      obtain ⟨k, q, hk, rfl, rfl⟩ := hrel
      by_cases hkn : k < l.length
      · obtain ⟨bl, ul, rfl, hbl, l0, l1, -⟩ := JL.at k hkn
        have HON : Hid (cntC l[k] o3.sl = 1) := HONE.out k hkn
        generalize l[k] = x at *
        go_wp2
        go_loopw [10, 11] (fun c j wr => ∃ (m q : Nat), m ≤ o3.sl.length ∧ j = .int .i64 m ∧ c = .int .i64 (cntC x (o3.sl.take m)) ∧ wr = u3.drewN q) (fun _ j _ => o3.sl.length - (intOf j).toNat)
        case atStart => exact ⟨0, q, by omega, rfl, by simp [cntC], rfl⟩
        case round =>
          obtain ⟨m, q, hm, rfl, rfl, rfl⟩ := hrel
          have hcl : cntC x (o3.sl.take m) ≤ 600 := by have := cnt_le x (o3.sl.take m); rw [List.length_take] at this; omega
          by_cases hmn : m < o3.sl.length
          · obtain ⟨bc, uc, ec, hbc, c0, c1, -⟩ := J3.at m hmn
            have HST : Hid (cntC x (o3.sl.take (m + 1)) = cntC x (o3.sl.take m) + (if o3.sl[m].dv = x.dv ∧ o3.sl[m].no = x.no then 1 else 0)) := cnt_step hmn
            generalize o3.sl[m] = z at *
            generalize cntC x (o3.sl.take m) = cn at *
            rw [ec] at a2
            by_cases hd : z.dv = x.dv
            · have ed : decide (z.dv = x.dv) = true := decide_eq_true hd
              by_cases hn2 : z.no = x.no
              · have en : decide (z.no = x.no) = true := decide_eq_true hn2
                have HNX : Hid (cntC x (o3.sl.take (m + 1)) = cn + 1) := by show _ = _; rw [HST.out, if_pos ⟨hd, hn2⟩]
                rw [hd] at c0
                rw [hn2] at c1
                clear HST hd hn2 ed en
                go_wp2
                have hm0 : (0 : Int) ≤ (m : Int) := by omega
                have hm1 : (m : Int) < (o3.sl.length : Int) := by omega
                have hk0 : (0 : Int) ≤ (k : Int) := by omega
                have hk1 : (k : Int) < (l.length : Int) := by omega
                refine wp_region_held_drew (S := (fun w' : World => w'.cell? ⟨P3, 2, none⟩ = some (.slice (some ⟨bc, uc, none⟩) o3.sl.length y3.d) ∧ w'.cell? ⟨bc, uc + m * 6, none⟩ = some (.int .i64 x.dv) ∧ w'.cell? ⟨bc, uc + m * 6 + 1, none⟩ = some (.int .i64 x.no) ∧ w'.cell? ⟨bl, ul + k * 6, none⟩ = some (.int .i64 x.dv) ∧ w'.cell? ⟨bl, ul + k * 6 + 1, none⟩ = some (.int .i64 x.no))) (by kernel_rfl) ?_ (fun hHeld => ?_)
                · exact ⟨a2, c0, c1, l0, l1⟩
                refine wpAnyH_take (i := 0) (v := .pointer (some ⟨P3, 2, none⟩)) rfl (by kernel_rfl) (by kernel_rfl) (by kernel_rfl) (fun _ _ _ h => h) (Or.inl ⟨by kernel_rfl, fun w hSw => by first | (go_simp; done) | (dsimp only at hSw; obtain ⟨s0, s1, s2, s3, s4⟩ := hSw; go_simp; done) | rfl⟩) (by assumption) ?_
                simp only [Act.put, List.getElem_toArray, List.getElem_cons_succ, List.getElem_cons_zero, List.setIfInBounds_toArray, List.set_cons_succ, List.set_cons_zero]
                refine wpAnyH_take (i := 1) (v := .slice (some ⟨bc, uc, none⟩) o3.sl.length y3.d) rfl (by kernel_rfl) (by kernel_rfl) (by kernel_rfl) (fun _ _ _ h => h) (Or.inl ⟨by kernel_rfl, fun w hSw => by first | (go_simp; done) | (dsimp only at hSw; obtain ⟨s0, s1, s2, s3, s4⟩ := hSw; go_simp; done) | rfl⟩) (by assumption) ?_
                simp only [Act.put, List.getElem_toArray, List.getElem_cons_succ, List.getElem_cons_zero, List.setIfInBounds_toArray, List.set_cons_succ, List.set_cons_zero]
                refine wpAnyH_take (i := 2) (v := .int .i64 m) rfl (by kernel_rfl) (by kernel_rfl) (by kernel_rfl) (fun _ _ _ h => h) (Or.inl ⟨by kernel_rfl, fun w hSw => by first | (go_simp; done) | (dsimp only at hSw; obtain ⟨s0, s1, s2, s3, s4⟩ := hSw; go_simp; done) | rfl⟩) (by assumption) ?_
                simp only [Act.put, List.getElem_toArray, List.getElem_cons_succ, List.getElem_cons_zero, List.setIfInBounds_toArray, List.set_cons_succ, List.set_cons_zero]
                refine wpAnyH_take (i := 3) (v := .pointer (some ⟨bc, uc + m * 6, none⟩)) rfl (by kernel_rfl) (by kernel_rfl) (by kernel_rfl) (fun _ _ _ h => h) (Or.inl ⟨by kernel_rfl, fun w hSw => by first | (go_simp; done) | (dsimp only at hSw; obtain ⟨s0, s1, s2, s3, s4⟩ := hSw; go_simp; done) | rfl⟩) (by assumption) ?_
                simp only [Act.put, List.getElem_toArray, List.getElem_cons_succ, List.getElem_cons_zero, List.setIfInBounds_toArray, List.set_cons_succ, List.set_cons_zero]
                refine wpAnyH_take (i := 4) (v := .pointer (some ⟨bc, uc + m * 6, none⟩)) rfl (by kernel_rfl) (by kernel_rfl) (by kernel_rfl) (fun _ _ _ h => h) (Or.inl ⟨by kernel_rfl, fun w hSw => by first | (go_simp; done) | (dsimp only at hSw; obtain ⟨s0, s1, s2, s3, s4⟩ := hSw; go_simp; done) | rfl⟩) (by assumption) ?_
                simp only [Act.put, List.getElem_toArray, List.getElem_cons_succ, List.getElem_cons_zero, List.setIfInBounds_toArray, List.set_cons_succ, List.set_cons_zero]
                refine wpAnyH_take (i := 5) (v := .int .i64 x.dv) rfl (by kernel_rfl) (by kernel_rfl) (by kernel_rfl) (fun _ _ _ h => h) (Or.inl ⟨by kernel_rfl, fun w hSw => by first | (go_simp; done) | (dsimp only at hSw; obtain ⟨s0, s1, s2, s3, s4⟩ := hSw; go_simp; done) | rfl⟩) (by assumption) ?_
                simp only [Act.put, List.getElem_toArray, List.getElem_cons_succ, List.getElem_cons_zero, List.setIfInBounds_toArray, List.set_cons_succ, List.set_cons_zero]
                refine wpAnyH_take (i := 6) (v := .slice (some ⟨bl, ul, none⟩) l.length lc) rfl (by kernel_rfl) (by kernel_rfl) (by kernel_rfl) (fun _ _ _ h => h) (Or.inl ⟨by kernel_rfl, fun w hSw => by first | (go_simp; done) | (dsimp only at hSw; obtain ⟨s0, s1, s2, s3, s4⟩ := hSw; go_simp; done) | rfl⟩) (by assumption) ?_
                simp only [Act.put, List.getElem_toArray, List.getElem_cons_succ, List.getElem_cons_zero, List.setIfInBounds_toArray, List.set_cons_succ, List.set_cons_zero]
                refine wpAnyH_take (i := 7) (v := .int .i64 k) rfl (by kernel_rfl) (by kernel_rfl) (by kernel_rfl) (fun _ _ _ h => h) (Or.inl ⟨by kernel_rfl, fun w hSw => by first | (go_simp; done) | (dsimp only at hSw; obtain ⟨s0, s1, s2, s3, s4⟩ := hSw; go_simp; done) | rfl⟩) (by assumption) ?_
                simp only [Act.put, List.getElem_toArray, List.getElem_cons_succ, List.getElem_cons_zero, List.setIfInBounds_toArray, List.set_cons_succ, List.set_cons_zero]
                refine wpAnyH_take (i := 8) (v := .pointer (some ⟨bl, ul + k * 6, none⟩)) rfl (by kernel_rfl) (by kernel_rfl) (by kernel_rfl) (fun _ _ _ h => h) (Or.inl ⟨by kernel_rfl, fun w hSw => by first | (go_simp; done) | (dsimp only at hSw; obtain ⟨s0, s1, s2, s3, s4⟩ := hSw; go_simp; done) | rfl⟩) (by assumption) ?_
                simp only [Act.put, List.getElem_toArray, List.getElem_cons_succ, List.getElem_cons_zero, List.setIfInBounds_toArray, List.set_cons_succ, List.set_cons_zero]
                refine wpAnyH_take (i := 9) (v := .pointer (some ⟨bl, ul + k * 6, none⟩)) rfl (by kernel_rfl) (by kernel_rfl) (by kernel_rfl) (fun _ _ _ h => h) (Or.inl ⟨by kernel_rfl, fun w hSw => by first | (go_simp; done) | (dsimp only at hSw; obtain ⟨s0, s1, s2, s3, s4⟩ := hSw; go_simp; done) | rfl⟩) (by assumption) ?_
                simp only [Act.put, List.getElem_toArray, List.getElem_cons_succ, List.getElem_cons_zero, List.setIfInBounds_toArray, List.set_cons_succ, List.set_cons_zero]
                refine wpAnyH_take (i := 10) (v := .int .i64 x.dv) rfl (by kernel_rfl) (by kernel_rfl) (by kernel_rfl) (fun _ _ _ h => h) (Or.inl ⟨by kernel_rfl, fun w hSw => by first | (go_simp; done) | (dsimp only at hSw; obtain ⟨s0, s1, s2, s3, s4⟩ := hSw; go_simp; done) | rfl⟩) (by assumption) ?_
                simp only [Act.put, List.getElem_toArray, List.getElem_cons_succ, List.getElem_cons_zero, List.setIfInBounds_toArray, List.set_cons_succ, List.set_cons_zero]
                refine wpAnyH_take (i := 11) (v := .bool true) rfl (by kernel_rfl) (by kernel_rfl) (by kernel_rfl) (fun _ _ _ h => h) (Or.inl ⟨by kernel_rfl, fun w hSw => by first | (go_simp; done) | (dsimp only at hSw; obtain ⟨s0, s1, s2, s3, s4⟩ := hSw; go_simp; done) | rfl⟩) (by assumption) ?_
                simp only [Act.put, List.getElem_toArray, List.getElem_cons_succ, List.getElem_cons_zero, List.setIfInBounds_toArray, List.set_cons_succ, List.set_cons_zero]
                refine wpAnyH_take (i := 12) (v := .bool true) rfl (by kernel_rfl) (by kernel_rfl) (by kernel_rfl) (fun _ _ _ h => h) (Or.inl ⟨by kernel_rfl, fun w hSw => by first | (go_simp; done) | (dsimp only at hSw; obtain ⟨s0, s1, s2, s3, s4⟩ := hSw; go_simp; done) | rfl⟩) (by assumption) ?_
                simp only [Act.put, List.getElem_toArray, List.getElem_cons_succ, List.getElem_cons_zero, List.setIfInBounds_toArray, List.set_cons_succ, List.set_cons_zero]
                refine wpAnyH_take (i := 13) (v := .pointer (some ⟨P3, 2, none⟩)) rfl (by kernel_rfl) (by kernel_rfl) (by kernel_rfl) (fun _ _ _ h => h) (Or.inl ⟨by kernel_rfl, fun w hSw => by first | (go_simp; done) | (dsimp only at hSw; obtain ⟨s0, s1, s2, s3, s4⟩ := hSw; go_simp; done) | rfl⟩) (by assumption) ?_
                simp only [Act.put, List.getElem_toArray, List.getElem_cons_succ, List.getElem_cons_zero, List.setIfInBounds_toArray, List.set_cons_succ, List.set_cons_zero]
                refine wpAnyH_take (i := 14) (v := .slice (some ⟨bc, uc, none⟩) o3.sl.length y3.d) rfl (by kernel_rfl) (by kernel_rfl) (by kernel_rfl) (fun _ _ _ h => h) (Or.inl ⟨by kernel_rfl, fun w hSw => by first | (go_simp; done) | (dsimp only at hSw; obtain ⟨s0, s1, s2, s3, s4⟩ := hSw; go_simp; done) | rfl⟩) (by assumption) ?_
                simp only [Act.put, List.getElem_toArray, List.getElem_cons_succ, List.getElem_cons_zero, List.setIfInBounds_toArray, List.set_cons_succ, List.set_cons_zero]
                refine wpAnyH_take (i := 15) (v := .int .i64 m) rfl (by kernel_rfl) (by kernel_rfl) (by kernel_rfl) (fun _ _ _ h => h) (Or.inl ⟨by kernel_rfl, fun w hSw => by first | (go_simp; done) | (dsimp only at hSw; obtain ⟨s0, s1, s2, s3, s4⟩ := hSw; go_simp; done) | rfl⟩) (by assumption) ?_
                simp only [Act.put, List.getElem_toArray, List.getElem_cons_succ, List.getElem_cons_zero, List.setIfInBounds_toArray, List.set_cons_succ, List.set_cons_zero]
                refine wpAnyH_take (i := 16) (v := .pointer (some ⟨bc, uc + m * 6, none⟩)) rfl (by kernel_rfl) (by kernel_rfl) (by kernel_rfl) (fun _ _ _ h => h) (Or.inl ⟨by kernel_rfl, fun w hSw => by first | (go_simp; done) | (dsimp only at hSw; obtain ⟨s0, s1, s2, s3, s4⟩ := hSw; go_simp; done) | rfl⟩) (by assumption) ?_
                simp only [Act.put, List.getElem_toArray, List.getElem_cons_succ, List.getElem_cons_zero, List.setIfInBounds_toArray, List.set_cons_succ, List.set_cons_zero]
                refine wpAnyH_take (i := 17) (v := .pointer (some ⟨bc, uc + m * 6 + 1, none⟩)) rfl (by kernel_rfl) (by kernel_rfl) (by kernel_rfl) (fun _ _ _ h => h) (Or.inl ⟨by kernel_rfl, fun w hSw => by first | (go_simp; done) | (dsimp only at hSw; obtain ⟨s0, s1, s2, s3, s4⟩ := hSw; go_simp; done) | rfl⟩) (by assumption) ?_
                simp only [Act.put, List.getElem_toArray, List.getElem_cons_succ, List.getElem_cons_zero, List.setIfInBounds_toArray, List.set_cons_succ, List.set_cons_zero]
                refine wpAnyH_take (i := 18) (v := .int .i64 x.no) rfl (by kernel_rfl) (by kernel_rfl) (by kernel_rfl) (fun _ _ _ h => h) (Or.inl ⟨by kernel_rfl, fun w hSw => by first | (go_simp; done) | (dsimp only at hSw; obtain ⟨s0, s1, s2, s3, s4⟩ := hSw; go_simp; done) | rfl⟩) (by assumption) ?_
                simp only [Act.put, List.getElem_toArray, List.getElem_cons_succ, List.getElem_cons_zero, List.setIfInBounds_toArray, List.set_cons_succ, List.set_cons_zero]
                refine wpAnyH_take (i := 19) (v := .slice (some ⟨bl, ul, none⟩) l.length lc) rfl (by kernel_rfl) (by kernel_rfl) (by kernel_rfl) (fun _ _ _ h => h) (Or.inl ⟨by kernel_rfl, fun w hSw => by first | (go_simp; done) | (dsimp only at hSw; obtain ⟨s0, s1, s2, s3, s4⟩ := hSw; go_simp; done) | rfl⟩) (by assumption) ?_
                simp only [Act.put, List.getElem_toArray, List.getElem_cons_succ, List.getElem_cons_zero, List.setIfInBounds_toArray, List.set_cons_succ, List.set_cons_zero]
                refine wpAnyH_take (i := 20) (v := .int .i64 k) rfl (by kernel_rfl) (by kernel_rfl) (by kernel_rfl) (fun _ _ _ h => h) (Or.inl ⟨by kernel_rfl, fun w hSw => by first | (go_simp; done) | (dsimp only at hSw; obtain ⟨s0, s1, s2, s3, s4⟩ := hSw; go_simp; done) | rfl⟩) (by assumption) ?_
                simp only [Act.put, List.getElem_toArray, List.getElem_cons_succ, List.getElem_cons_zero, List.setIfInBounds_toArray, List.set_cons_succ, List.set_cons_zero]
                refine wpAnyH_take (i := 21) (v := .pointer (some ⟨bl, ul + k * 6, none⟩)) rfl (by kernel_rfl) (by kernel_rfl) (by kernel_rfl) (fun _ _ _ h => h) (Or.inl ⟨by kernel_rfl, fun w hSw => by first | (go_simp; done) | (dsimp only at hSw; obtain ⟨s0, s1, s2, s3, s4⟩ := hSw; go_simp; done) | rfl⟩) (by assumption) ?_
                simp only [Act.put, List.getElem_toArray, List.getElem_cons_succ, List.getElem_cons_zero, List.setIfInBounds_toArray, List.set_cons_succ, List.set_cons_zero]
                refine wpAnyH_take (i := 22) (v := .pointer (some ⟨bl, ul + k * 6 + 1, none⟩)) rfl (by kernel_rfl) (by kernel_rfl) (by kernel_rfl) (fun _ _ _ h => h) (Or.inl ⟨by kernel_rfl, fun w hSw => by first | (go_simp; done) | (dsimp only at hSw; obtain ⟨s0, s1, s2, s3, s4⟩ := hSw; go_simp; done) | rfl⟩) (by assumption) ?_
                simp only [Act.put, List.getElem_toArray, List.getElem_cons_succ, List.getElem_cons_zero, List.setIfInBounds_toArray, List.set_cons_succ, List.set_cons_zero]
                refine wpAnyH_take (i := 23) (v := .int .i64 x.no) rfl (by kernel_rfl) (by kernel_rfl) (by kernel_rfl) (fun _ _ _ h => h) (Or.inl ⟨by kernel_rfl, fun w hSw => by first | (go_simp; done) | (dsimp only at hSw; obtain ⟨s0, s1, s2, s3, s4⟩ := hSw; go_simp; done) | rfl⟩) (by assumption) ?_
                simp only [Act.put, List.getElem_toArray, List.getElem_cons_succ, List.getElem_cons_zero, List.setIfInBounds_toArray, List.set_cons_succ, List.set_cons_zero]
                refine wpAnyH_take (i := 24) (v := .bool true) rfl (by kernel_rfl) (by kernel_rfl) (by kernel_rfl) (fun _ _ _ h => h) (Or.inl ⟨by kernel_rfl, fun w hSw => by first | (go_simp; done) | (dsimp only at hSw; obtain ⟨s0, s1, s2, s3, s4⟩ := hSw; go_simp; done) | rfl⟩) (by assumption) ?_
                simp only [Act.put, List.getElem_toArray, List.getElem_cons_succ, List.getElem_cons_zero, List.setIfInBounds_toArray, List.set_cons_succ, List.set_cons_zero]
                refine wpAnyH_take (i := 25) (v := .bool true) rfl (by kernel_rfl) (by kernel_rfl) (by kernel_rfl) (fun _ _ _ h => h) (Or.inl ⟨by kernel_rfl, fun w hSw => by first | (go_simp; done) | (dsimp only at hSw; obtain ⟨s0, s1, s2, s3, s4⟩ := hSw; go_simp; done) | rfl⟩) (by assumption) ?_
                simp only [Act.put, List.getElem_toArray, List.getElem_cons_succ, List.getElem_cons_zero, List.setIfInBounds_toArray, List.set_cons_succ, List.set_cons_zero]
                refine wpAnyH_done (by kernel_rfl) ?_ _
                go_wp2
                go_roundw
                case rel => exact ⟨m + 1, q + 1, by omega, by go_num, by rw [HNX.out]; go_num, rfl⟩
                case measure => simp [intOf]; omega
              · have en : decide (z.no = x.no) = false := decide_eq_false hn2
                have HNX : Hid (cntC x (o3.sl.take (m + 1)) = cn) := by show _ = _; rw [HST.out, if_neg (fun h => hn2 h.2)]; rfl
                rw [hd] at c0
                clear HST hd ed
                go_wp2
                have hm0 : (0 : Int) ≤ (m : Int) := by omega
                have hm1 : (m : Int) < (o3.sl.length : Int) := by omega
                have hk0 : (0 : Int) ≤ (k : Int) := by omega
                have hk1 : (k : Int) < (l.length : Int) := by omega
                refine wp_region_held_drew (S := (fun w' : World => w'.cell? ⟨P3, 2, none⟩ = some (.slice (some ⟨bc, uc, none⟩) o3.sl.length y3.d) ∧ w'.cell? ⟨bc, uc + m * 6, none⟩ = some (.int .i64 x.dv) ∧ w'.cell? ⟨bc, uc + m * 6 + 1, none⟩ = some (.int .i64 z.no) ∧ w'.cell? ⟨bl, ul + k * 6, none⟩ = some (.int .i64 x.dv) ∧ w'.cell? ⟨bl, ul + k * 6 + 1, none⟩ = some (.int .i64 x.no))) (by kernel_rfl) ?_ (fun hHeld => ?_)
                · exact ⟨a2, c0, c1, l0, l1⟩
                refine wpAnyH_take (i := 0) (v := .pointer (some ⟨P3, 2, none⟩)) rfl (by kernel_rfl) (by kernel_rfl) (by kernel_rfl) (fun _ _ _ h => h) (Or.inl ⟨by kernel_rfl, fun w hSw => by first | (go_simp; done) | (dsimp only at hSw; obtain ⟨s0, s1, s2, s3, s4⟩ := hSw; go_simp; done) | rfl⟩) (by assumption) ?_
                simp only [Act.put, List.getElem_toArray, List.getElem_cons_succ, List.getElem_cons_zero, List.setIfInBounds_toArray, List.set_cons_succ, List.set_cons_zero]
                refine wpAnyH_take (i := 1) (v := .slice (some ⟨bc, uc, none⟩) o3.sl.length y3.d) rfl (by kernel_rfl) (by kernel_rfl) (by kernel_rfl) (fun _ _ _ h => h) (Or.inl ⟨by kernel_rfl, fun w hSw => by first | (go_simp; done) | (dsimp only at hSw; obtain ⟨s0, s1, s2, s3, s4⟩ := hSw; go_simp; done) | rfl⟩) (by assumption) ?_
                simp only [Act.put, List.getElem_toArray, List.getElem_cons_succ, List.getElem_cons_zero, List.setIfInBounds_toArray, List.set_cons_succ, List.set_cons_zero]
                refine wpAnyH_take (i := 2) (v := .int .i64 m) rfl (by kernel_rfl) (by kernel_rfl) (by kernel_rfl) (fun _ _ _ h => h) (Or.inl ⟨by kernel_rfl, fun w hSw => by first | (go_simp; done) | (dsimp only at hSw; obtain ⟨s0, s1, s2, s3, s4⟩ := hSw; go_simp; done) | rfl⟩) (by assumption) ?_
                simp only [Act.put, List.getElem_toArray, List.getElem_cons_succ, List.getElem_cons_zero, List.setIfInBounds_toArray, List.set_cons_succ, List.set_cons_zero]
                refine wpAnyH_take (i := 3) (v := .pointer (some ⟨bc, uc + m * 6, none⟩)) rfl (by kernel_rfl) (by kernel_rfl) (by kernel_rfl) (fun _ _ _ h => h) (Or.inl ⟨by kernel_rfl, fun w hSw => by first | (go_simp; done) | (dsimp only at hSw; obtain ⟨s0, s1, s2, s3, s4⟩ := hSw; go_simp; done) | rfl⟩) (by assumption) ?_
                simp only [Act.put, List.getElem_toArray, List.getElem_cons_succ, List.getElem_cons_zero, List.setIfInBounds_toArray, List.set_cons_succ, List.set_cons_zero]
                refine wpAnyH_take (i := 4) (v := .pointer (some ⟨bc, uc + m * 6, none⟩)) rfl (by kernel_rfl) (by kernel_rfl) (by kernel_rfl) (fun _ _ _ h => h) (Or.inl ⟨by kernel_rfl, fun w hSw => by first | (go_simp; done) | (dsimp only at hSw; obtain ⟨s0, s1, s2, s3, s4⟩ := hSw; go_simp; done) | rfl⟩) (by assumption) ?_
                simp only [Act.put, List.getElem_toArray, List.getElem_cons_succ, List.getElem_cons_zero, List.setIfInBounds_toArray, List.set_cons_succ, List.set_cons_zero]
                refine wpAnyH_take (i := 5) (v := .int .i64 x.dv) rfl (by kernel_rfl) (by kernel_rfl) (by kernel_rfl) (fun _ _ _ h => h) (Or.inl ⟨by kernel_rfl, fun w hSw => by first | (go_simp; done) | (dsimp only at hSw; obtain ⟨s0, s1, s2, s3, s4⟩ := hSw; go_simp; done) | rfl⟩) (by assumption) ?_
                simp only [Act.put, List.getElem_toArray, List.getElem_cons_succ, List.getElem_cons_zero, List.setIfInBounds_toArray, List.set_cons_succ, List.set_cons_zero]
                refine wpAnyH_take (i := 6) (v := .slice (some ⟨bl, ul, none⟩) l.length lc) rfl (by kernel_rfl) (by kernel_rfl) (by kernel_rfl) (fun _ _ _ h => h) (Or.inl ⟨by kernel_rfl, fun w hSw => by first | (go_simp; done) | (dsimp only at hSw; obtain ⟨s0, s1, s2, s3, s4⟩ := hSw; go_simp; done) | rfl⟩) (by assumption) ?_
                simp only [Act.put, List.getElem_toArray, List.getElem_cons_succ, List.getElem_cons_zero, List.setIfInBounds_toArray, List.set_cons_succ, List.set_cons_zero]
                refine wpAnyH_take (i := 7) (v := .int .i64 k) rfl (by kernel_rfl) (by kernel_rfl) (by kernel_rfl) (fun _ _ _ h => h) (Or.inl ⟨by kernel_rfl, fun w hSw => by first | (go_simp; done) | (dsimp only at hSw; obtain ⟨s0, s1, s2, s3, s4⟩ := hSw; go_simp; done) | rfl⟩) (by assumption) ?_
                simp only [Act.put, List.getElem_toArray, List.getElem_cons_succ, List.getElem_cons_zero, List.setIfInBounds_toArray, List.set_cons_succ, List.set_cons_zero]
                refine wpAnyH_take (i := 8) (v := .pointer (some ⟨bl, ul + k * 6, none⟩)) rfl (by kernel_rfl) (by kernel_rfl) (by kernel_rfl) (fun _ _ _ h => h) (Or.inl ⟨by kernel_rfl, fun w hSw => by first | (go_simp; done) | (dsimp only at hSw; obtain ⟨s0, s1, s2, s3, s4⟩ := hSw; go_simp; done) | rfl⟩) (by assumption) ?_
                simp only [Act.put, List.getElem_toArray, List.getElem_cons_succ, List.getElem_cons_zero, List.setIfInBounds_toArray, List.set_cons_succ, List.set_cons_zero]
                refine wpAnyH_take (i := 9) (v := .pointer (some ⟨bl, ul + k * 6, none⟩)) rfl (by kernel_rfl) (by kernel_rfl) (by kernel_rfl) (fun _ _ _ h => h) (Or.inl ⟨by kernel_rfl, fun w hSw => by first | (go_simp; done) | (dsimp only at hSw; obtain ⟨s0, s1, s2, s3, s4⟩ := hSw; go_simp; done) | rfl⟩) (by assumption) ?_
                simp only [Act.put, List.getElem_toArray, List.getElem_cons_succ, List.getElem_cons_zero, List.setIfInBounds_toArray, List.set_cons_succ, List.set_cons_zero]
                refine wpAnyH_take (i := 10) (v := .int .i64 x.dv) rfl (by kernel_rfl) (by kernel_rfl) (by kernel_rfl) (fun _ _ _ h => h) (Or.inl ⟨by kernel_rfl, fun w hSw => by first | (go_simp; done) | (dsimp only at hSw; obtain ⟨s0, s1, s2, s3, s4⟩ := hSw; go_simp; done) | rfl⟩) (by assumption) ?_
                simp only [Act.put, List.getElem_toArray, List.getElem_cons_succ, List.getElem_cons_zero, List.setIfInBounds_toArray, List.set_cons_succ, List.set_cons_zero]
                refine wpAnyH_take (i := 11) (v := .bool true) rfl (by kernel_rfl) (by kernel_rfl) (by kernel_rfl) (fun _ _ _ h => h) (Or.inl ⟨by kernel_rfl, fun w hSw => by first | (go_simp; done) | (dsimp only at hSw; obtain ⟨s0, s1, s2, s3, s4⟩ := hSw; go_simp; done) | rfl⟩) (by assumption) ?_
                simp only [Act.put, List.getElem_toArray, List.getElem_cons_succ, List.getElem_cons_zero, List.setIfInBounds_toArray, List.set_cons_succ, List.set_cons_zero]
                refine wpAnyH_take (i := 12) (v := .bool true) rfl (by kernel_rfl) (by kernel_rfl) (by kernel_rfl) (fun _ _ _ h => h) (Or.inl ⟨by kernel_rfl, fun w hSw => by first | (go_simp; done) | (dsimp only at hSw; obtain ⟨s0, s1, s2, s3, s4⟩ := hSw; go_simp; done) | rfl⟩) (by assumption) ?_
                simp only [Act.put, List.getElem_toArray, List.getElem_cons_succ, List.getElem_cons_zero, List.setIfInBounds_toArray, List.set_cons_succ, List.set_cons_zero]
                refine wpAnyH_take (i := 13) (v := .pointer (some ⟨P3, 2, none⟩)) rfl (by kernel_rfl) (by kernel_rfl) (by kernel_rfl) (fun _ _ _ h => h) (Or.inl ⟨by kernel_rfl, fun w hSw => by first | (go_simp; done) | (dsimp only at hSw; obtain ⟨s0, s1, s2, s3, s4⟩ := hSw; go_simp; done) | rfl⟩) (by assumption) ?_
                simp only [Act.put, List.getElem_toArray, List.getElem_cons_succ, List.getElem_cons_zero, List.setIfInBounds_toArray, List.set_cons_succ, List.set_cons_zero]
                refine wpAnyH_take (i := 14) (v := .slice (some ⟨bc, uc, none⟩) o3.sl.length y3.d) rfl (by kernel_rfl) (by kernel_rfl) (by kernel_rfl) (fun _ _ _ h => h) (Or.inl ⟨by kernel_rfl, fun w hSw => by first | (go_simp; done) | (dsimp only at hSw; obtain ⟨s0, s1, s2, s3, s4⟩ := hSw; go_simp; done) | rfl⟩) (by assumption) ?_
                simp only [Act.put, List.getElem_toArray, List.getElem_cons_succ, List.getElem_cons_zero, List.setIfInBounds_toArray, List.set_cons_succ, List.set_cons_zero]
                refine wpAnyH_take (i := 15) (v := .int .i64 m) rfl (by kernel_rfl) (by kernel_rfl) (by kernel_rfl) (fun _ _ _ h => h) (Or.inl ⟨by kernel_rfl, fun w hSw => by first | (go_simp; done) | (dsimp only at hSw; obtain ⟨s0, s1, s2, s3, s4⟩ := hSw; go_simp; done) | rfl⟩) (by assumption) ?_
                simp only [Act.put, List.getElem_toArray, List.getElem_cons_succ, List.getElem_cons_zero, List.setIfInBounds_toArray, List.set_cons_succ, List.set_cons_zero]
                refine wpAnyH_take (i := 16) (v := .pointer (some ⟨bc, uc + m * 6, none⟩)) rfl (by kernel_rfl) (by kernel_rfl) (by kernel_rfl) (fun _ _ _ h => h) (Or.inl ⟨by kernel_rfl, fun w hSw => by first | (go_simp; done) | (dsimp only at hSw; obtain ⟨s0, s1, s2, s3, s4⟩ := hSw; go_simp; done) | rfl⟩) (by assumption) ?_
                simp only [Act.put, List.getElem_toArray, List.getElem_cons_succ, List.getElem_cons_zero, List.setIfInBounds_toArray, List.set_cons_succ, List.set_cons_zero]
                refine wpAnyH_take (i := 17) (v := .pointer (some ⟨bc, uc + m * 6 + 1, none⟩)) rfl (by kernel_rfl) (by kernel_rfl) (by kernel_rfl) (fun _ _ _ h => h) (Or.inl ⟨by kernel_rfl, fun w hSw => by first | (go_simp; done) | (dsimp only at hSw; obtain ⟨s0, s1, s2, s3, s4⟩ := hSw; go_simp; done) | rfl⟩) (by assumption) ?_
                simp only [Act.put, List.getElem_toArray, List.getElem_cons_succ, List.getElem_cons_zero, List.setIfInBounds_toArray, List.set_cons_succ, List.set_cons_zero]
                refine wpAnyH_take (i := 18) (v := .int .i64 z.no) rfl (by kernel_rfl) (by kernel_rfl) (by kernel_rfl) (fun _ _ _ h => h) (Or.inl ⟨by kernel_rfl, fun w hSw => by first | (go_simp; done) | (dsimp only at hSw; obtain ⟨s0, s1, s2, s3, s4⟩ := hSw; go_simp; done) | rfl⟩) (by assumption) ?_
                simp only [Act.put, List.getElem_toArray, List.getElem_cons_succ, List.getElem_cons_zero, List.setIfInBounds_toArray, List.set_cons_succ, List.set_cons_zero]
                refine wpAnyH_take (i := 19) (v := .slice (some ⟨bl, ul, none⟩) l.length lc) rfl (by kernel_rfl) (by kernel_rfl) (by kernel_rfl) (fun _ _ _ h => h) (Or.inl ⟨by kernel_rfl, fun w hSw => by first | (go_simp; done) | (dsimp only at hSw; obtain ⟨s0, s1, s2, s3, s4⟩ := hSw; go_simp; done) | rfl⟩) (by assumption) ?_
                simp only [Act.put, List.getElem_toArray, List.getElem_cons_succ, List.getElem_cons_zero, List.setIfInBounds_toArray, List.set_cons_succ, List.set_cons_zero]
                refine wpAnyH_take (i := 20) (v := .int .i64 k) rfl (by kernel_rfl) (by kernel_rfl) (by kernel_rfl) (fun _ _ _ h => h) (Or.inl ⟨by kernel_rfl, fun w hSw => by first | (go_simp; done) | (dsimp only at hSw; obtain ⟨s0, s1, s2, s3, s4⟩ := hSw; go_simp; done) | rfl⟩) (by assumption) ?_
                simp only [Act.put, List.getElem_toArray, List.getElem_cons_succ, List.getElem_cons_zero, List.setIfInBounds_toArray, List.set_cons_succ, List.set_cons_zero]
                refine wpAnyH_take (i := 21) (v := .pointer (some ⟨bl, ul + k * 6, none⟩)) rfl (by kernel_rfl) (by kernel_rfl) (by kernel_rfl) (fun _ _ _ h => h) (Or.inl ⟨by kernel_rfl, fun w hSw => by first | (go_simp; done) | (dsimp only at hSw; obtain ⟨s0, s1, s2, s3, s4⟩ := hSw; go_simp; done) | rfl⟩) (by assumption) ?_
                simp only [Act.put, List.getElem_toArray, List.getElem_cons_succ, List.getElem_cons_zero, List.setIfInBounds_toArray, List.set_cons_succ, List.set_cons_zero]
                refine wpAnyH_take (i := 22) (v := .pointer (some ⟨bl, ul + k * 6 + 1, none⟩)) rfl (by kernel_rfl) (by kernel_rfl) (by kernel_rfl) (fun _ _ _ h => h) (Or.inl ⟨by kernel_rfl, fun w hSw => by first | (go_simp; done) | (dsimp only at hSw; obtain ⟨s0, s1, s2, s3, s4⟩ := hSw; go_simp; done) | rfl⟩) (by assumption) ?_
                simp only [Act.put, List.getElem_toArray, List.getElem_cons_succ, List.getElem_cons_zero, List.setIfInBounds_toArray, List.set_cons_succ, List.set_cons_zero]
                refine wpAnyH_take (i := 23) (v := .int .i64 x.no) rfl (by kernel_rfl) (by kernel_rfl) (by kernel_rfl) (fun _ _ _ h => h) (Or.inl ⟨by kernel_rfl, fun w hSw => by first | (go_simp; done) | (dsimp only at hSw; obtain ⟨s0, s1, s2, s3, s4⟩ := hSw; go_simp; done) | rfl⟩) (by assumption) ?_
                simp only [Act.put, List.getElem_toArray, List.getElem_cons_succ, List.getElem_cons_zero, List.setIfInBounds_toArray, List.set_cons_succ, List.set_cons_zero]
                refine wpAnyH_take (i := 24) (v := .bool false) rfl (by kernel_rfl) (by kernel_rfl) (by kernel_rfl) (fun _ _ _ h => h) (Or.inl ⟨by kernel_rfl, fun w hSw => by first | (first | (go_simp; rw [en]; done) | (go_simp; simp [en]; done) | (go_simp; simp [hn2]; done)) | (go_simp; done) | (dsimp only at hSw; obtain ⟨s0, s1, s2, s3, s4⟩ := hSw; go_simp; done) | rfl⟩) (by assumption) ?_
                simp only [Act.put, List.getElem_toArray, List.getElem_cons_succ, List.getElem_cons_zero, List.setIfInBounds_toArray, List.set_cons_succ, List.set_cons_zero]
                refine wpAnyH_take (i := 25) (v := .bool false) rfl (by kernel_rfl) (by kernel_rfl) (by kernel_rfl) (fun _ _ _ h => h) (Or.inl ⟨by kernel_rfl, fun w hSw => by first | (go_simp; done) | (dsimp only at hSw; obtain ⟨s0, s1, s2, s3, s4⟩ := hSw; go_simp; done) | rfl⟩) (by assumption) ?_
                simp only [Act.put, List.getElem_toArray, List.getElem_cons_succ, List.getElem_cons_zero, List.setIfInBounds_toArray, List.set_cons_succ, List.set_cons_zero]
                refine wpAnyH_done (by kernel_rfl) ?_ _
                go_wp2
                go_roundw
                case rel => exact ⟨m + 1, q + 1, by omega, by go_num, by rw [HNX.out], rfl⟩
                case measure => simp [intOf]; omega
            · have ed : decide (z.dv = x.dv) = false := decide_eq_false hd
              have HNX : Hid (cntC x (o3.sl.take (m + 1)) = cn) := by show _ = _; rw [HST.out, if_neg (fun h => hd h.1)]; rfl
              clear HST
              go_wp2
              have hm0 : (0 : Int) ≤ (m : Int) := by omega
              have hm1 : (m : Int) < (o3.sl.length : Int) := by omega
              have hk0 : (0 : Int) ≤ (k : Int) := by omega
              have hk1 : (k : Int) < (l.length : Int) := by omega
              refine wp_region_held_drew (S := (fun w' : World => w'.cell? ⟨P3, 2, none⟩ = some (.slice (some ⟨bc, uc, none⟩) o3.sl.length y3.d) ∧ w'.cell? ⟨bc, uc + m * 6, none⟩ = some (.int .i64 z.dv) ∧ w'.cell? ⟨bc, uc + m * 6 + 1, none⟩ = some (.int .i64 z.no) ∧ w'.cell? ⟨bl, ul + k * 6, none⟩ = some (.int .i64 x.dv) ∧ w'.cell? ⟨bl, ul + k * 6 + 1, none⟩ = some (.int .i64 x.no))) (by kernel_rfl) ?_ (fun hHeld => ?_)
              · exact ⟨a2, c0, c1, l0, l1⟩
              refine wpAnyH_take (i := 0) (v := .pointer (some ⟨P3, 2, none⟩)) rfl (by kernel_rfl) (by kernel_rfl) (by kernel_rfl) (fun _ _ _ h => h) (Or.inl ⟨by kernel_rfl, fun w hSw => by first | (go_simp; done) | (dsimp only at hSw; obtain ⟨s0, s1, s2, s3, s4⟩ := hSw; go_simp; done) | rfl⟩) (by assumption) ?_
              simp only [Act.put, List.getElem_toArray, List.getElem_cons_succ, List.getElem_cons_zero, List.setIfInBounds_toArray, List.set_cons_succ, List.set_cons_zero]
              refine wpAnyH_take (i := 1) (v := .slice (some ⟨bc, uc, none⟩) o3.sl.length y3.d) rfl (by kernel_rfl) (by kernel_rfl) (by kernel_rfl) (fun _ _ _ h => h) (Or.inl ⟨by kernel_rfl, fun w hSw => by first | (go_simp; done) | (dsimp only at hSw; obtain ⟨s0, s1, s2, s3, s4⟩ := hSw; go_simp; done) | rfl⟩) (by assumption) ?_
              simp only [Act.put, List.getElem_toArray, List.getElem_cons_succ, List.getElem_cons_zero, List.setIfInBounds_toArray, List.set_cons_succ, List.set_cons_zero]
              refine wpAnyH_take (i := 2) (v := .int .i64 m) rfl (by kernel_rfl) (by kernel_rfl) (by kernel_rfl) (fun _ _ _ h => h) (Or.inl ⟨by kernel_rfl, fun w hSw => by first | (go_simp; done) | (dsimp only at hSw; obtain ⟨s0, s1, s2, s3, s4⟩ := hSw; go_simp; done) | rfl⟩) (by assumption) ?_
              simp only [Act.put, List.getElem_toArray, List.getElem_cons_succ, List.getElem_cons_zero, List.setIfInBounds_toArray, List.set_cons_succ, List.set_cons_zero]
              refine wpAnyH_take (i := 3) (v := .pointer (some ⟨bc, uc + m * 6, none⟩)) rfl (by kernel_rfl) (by kernel_rfl) (by kernel_rfl) (fun _ _ _ h => h) (Or.inl ⟨by kernel_rfl, fun w hSw => by first | (go_simp; done) | (dsimp only at hSw; obtain ⟨s0, s1, s2, s3, s4⟩ := hSw; go_simp; done) | rfl⟩) (by assumption) ?_
              simp only [Act.put, List.getElem_toArray, List.getElem_cons_succ, List.getElem_cons_zero, List.setIfInBounds_toArray, List.set_cons_succ, List.set_cons_zero]
              refine wpAnyH_take (i := 4) (v := .pointer (some ⟨bc, uc + m * 6, none⟩)) rfl (by kernel_rfl) (by kernel_rfl) (by kernel_rfl) (fun _ _ _ h => h) (Or.inl ⟨by kernel_rfl, fun w hSw => by first | (go_simp; done) | (dsimp only at hSw; obtain ⟨s0, s1, s2, s3, s4⟩ := hSw; go_simp; done) | rfl⟩) (by assumption) ?_
              simp only [Act.put, List.getElem_toArray, List.getElem_cons_succ, List.getElem_cons_zero, List.setIfInBounds_toArray, List.set_cons_succ, List.set_cons_zero]
              refine wpAnyH_take (i := 5) (v := .int .i64 z.dv) rfl (by kernel_rfl) (by kernel_rfl) (by kernel_rfl) (fun _ _ _ h => h) (Or.inl ⟨by kernel_rfl, fun w hSw => by first | (go_simp; done) | (dsimp only at hSw; obtain ⟨s0, s1, s2, s3, s4⟩ := hSw; go_simp; done) | rfl⟩) (by assumption) ?_
              simp only [Act.put, List.getElem_toArray, List.getElem_cons_succ, List.getElem_cons_zero, List.setIfInBounds_toArray, List.set_cons_succ, List.set_cons_zero]
              refine wpAnyH_take (i := 6) (v := .slice (some ⟨bl, ul, none⟩) l.length lc) rfl (by kernel_rfl) (by kernel_rfl) (by kernel_rfl) (fun _ _ _ h => h) (Or.inl ⟨by kernel_rfl, fun w hSw => by first | (go_simp; done) | (dsimp only at hSw; obtain ⟨s0, s1, s2, s3, s4⟩ := hSw; go_simp; done) | rfl⟩) (by assumption) ?_
              simp only [Act.put, List.getElem_toArray, List.getElem_cons_succ, List.getElem_cons_zero, List.setIfInBounds_toArray, List.set_cons_succ, List.set_cons_zero]
              refine wpAnyH_take (i := 7) (v := .int .i64 k) rfl (by kernel_rfl) (by kernel_rfl) (by kernel_rfl) (fun _ _ _ h => h) (Or.inl ⟨by kernel_rfl, fun w hSw => by first | (go_simp; done) | (dsimp only at hSw; obtain ⟨s0, s1, s2, s3, s4⟩ := hSw; go_simp; done) | rfl⟩) (by assumption) ?_
              simp only [Act.put, List.getElem_toArray, List.getElem_cons_succ, List.getElem_cons_zero, List.setIfInBounds_toArray, List.set_cons_succ, List.set_cons_zero]
              refine wpAnyH_take (i := 8) (v := .pointer (some ⟨bl, ul + k * 6, none⟩)) rfl (by kernel_rfl) (by kernel_rfl) (by kernel_rfl) (fun _ _ _ h => h) (Or.inl ⟨by kernel_rfl, fun w hSw => by first | (go_simp; done) | (dsimp only at hSw; obtain ⟨s0, s1, s2, s3, s4⟩ := hSw; go_simp; done) | rfl⟩) (by assumption) ?_
              simp only [Act.put, List.getElem_toArray, List.getElem_cons_succ, List.getElem_cons_zero, List.setIfInBounds_toArray, List.set_cons_succ, List.set_cons_zero]
              refine wpAnyH_take (i := 9) (v := .pointer (some ⟨bl, ul + k * 6, none⟩)) rfl (by kernel_rfl) (by kernel_rfl) (by kernel_rfl) (fun _ _ _ h => h) (Or.inl ⟨by kernel_rfl, fun w hSw => by first | (go_simp; done) | (dsimp only at hSw; obtain ⟨s0, s1, s2, s3, s4⟩ := hSw; go_simp; done) | rfl⟩) (by assumption) ?_
              simp only [Act.put, List.getElem_toArray, List.getElem_cons_succ, List.getElem_cons_zero, List.setIfInBounds_toArray, List.set_cons_succ, List.set_cons_zero]
              refine wpAnyH_take (i := 10) (v := .int .i64 x.dv) rfl (by kernel_rfl) (by kernel_rfl) (by kernel_rfl) (fun _ _ _ h => h) (Or.inl ⟨by kernel_rfl, fun w hSw => by first | (go_simp; done) | (dsimp only at hSw; obtain ⟨s0, s1, s2, s3, s4⟩ := hSw; go_simp; done) | rfl⟩) (by assumption) ?_
              simp only [Act.put, List.getElem_toArray, List.getElem_cons_succ, List.getElem_cons_zero, List.setIfInBounds_toArray, List.set_cons_succ, List.set_cons_zero]
              refine wpAnyH_take (i := 11) (v := .bool false) rfl (by kernel_rfl) (by kernel_rfl) (by kernel_rfl) (fun _ _ _ h => h) (Or.inl ⟨by kernel_rfl, fun w hSw => by first | (first | (go_simp; rw [ed]; done) | (go_simp; simp [ed]; done) | (go_simp; simp [hd]; done)) | (go_simp; done) | (dsimp only at hSw; obtain ⟨s0, s1, s2, s3, s4⟩ := hSw; go_simp; done) | rfl⟩) (by assumption) ?_
              simp only [Act.put, List.getElem_toArray, List.getElem_cons_succ, List.getElem_cons_zero, List.setIfInBounds_toArray, List.set_cons_succ, List.set_cons_zero]
              refine wpAnyH_take (i := 12) (v := .bool false) rfl (by kernel_rfl) (by kernel_rfl) (by kernel_rfl) (fun _ _ _ h => h) (Or.inl ⟨by kernel_rfl, fun w hSw => by first | (go_simp; done) | (dsimp only at hSw; obtain ⟨s0, s1, s2, s3, s4⟩ := hSw; go_simp; done) | rfl⟩) (by assumption) ?_
              simp only [Act.put, List.getElem_toArray, List.getElem_cons_succ, List.getElem_cons_zero, List.setIfInBounds_toArray, List.set_cons_succ, List.set_cons_zero]
              refine wpAnyH_take (i := 13) (v := undef) rfl (by kernel_rfl) (by kernel_rfl) (by kernel_rfl) (fun _ _ _ h => h) (Or.inr ⟨by kernel_rfl, rfl⟩) (by assumption) ?_
              simp only [Act.put, List.getElem_toArray, List.getElem_cons_succ, List.getElem_cons_zero, List.setIfInBounds_toArray, List.set_cons_succ, List.set_cons_zero]
              refine wpAnyH_take (i := 14) (v := undef) rfl (by kernel_rfl) (by kernel_rfl) (by kernel_rfl) (fun _ _ _ h => h) (Or.inr ⟨by kernel_rfl, rfl⟩) (by assumption) ?_
              simp only [Act.put, List.getElem_toArray, List.getElem_cons_succ, List.getElem_cons_zero, List.setIfInBounds_toArray, List.set_cons_succ, List.set_cons_zero]
              refine wpAnyH_take (i := 15) (v := undef) rfl (by kernel_rfl) (by kernel_rfl) (by kernel_rfl) (fun _ _ _ h => h) (Or.inr ⟨by kernel_rfl, rfl⟩) (by assumption) ?_
              simp only [Act.put, List.getElem_toArray, List.getElem_cons_succ, List.getElem_cons_zero, List.setIfInBounds_toArray, List.set_cons_succ, List.set_cons_zero]
              refine wpAnyH_take (i := 16) (v := undef) rfl (by kernel_rfl) (by kernel_rfl) (by kernel_rfl) (fun _ _ _ h => h) (Or.inr ⟨by kernel_rfl, rfl⟩) (by assumption) ?_
              simp only [Act.put, List.getElem_toArray, List.getElem_cons_succ, List.getElem_cons_zero, List.setIfInBounds_toArray, List.set_cons_succ, List.set_cons_zero]
              refine wpAnyH_take (i := 17) (v := undef) rfl (by kernel_rfl) (by kernel_rfl) (by kernel_rfl) (fun _ _ _ h => h) (Or.inr ⟨by kernel_rfl, rfl⟩) (by assumption) ?_
              simp only [Act.put, List.getElem_toArray, List.getElem_cons_succ, List.getElem_cons_zero, List.setIfInBounds_toArray, List.set_cons_succ, List.set_cons_zero]
              refine wpAnyH_take (i := 18) (v := undef) rfl (by kernel_rfl) (by kernel_rfl) (by kernel_rfl) (fun _ _ _ h => h) (Or.inr ⟨by kernel_rfl, rfl⟩) (by assumption) ?_
              simp only [Act.put, List.getElem_toArray, List.getElem_cons_succ, List.getElem_cons_zero, List.setIfInBounds_toArray, List.set_cons_succ, List.set_cons_zero]
              refine wpAnyH_take (i := 19) (v := undef) rfl (by kernel_rfl) (by kernel_rfl) (by kernel_rfl) (fun _ _ _ h => h) (Or.inr ⟨by kernel_rfl, rfl⟩) (by assumption) ?_
              simp only [Act.put, List.getElem_toArray, List.getElem_cons_succ, List.getElem_cons_zero, List.setIfInBounds_toArray, List.set_cons_succ, List.set_cons_zero]
              refine wpAnyH_take (i := 20) (v := undef) rfl (by kernel_rfl) (by kernel_rfl) (by kernel_rfl) (fun _ _ _ h => h) (Or.inr ⟨by kernel_rfl, rfl⟩) (by assumption) ?_
              simp only [Act.put, List.getElem_toArray, List.getElem_cons_succ, List.getElem_cons_zero, List.setIfInBounds_toArray, List.set_cons_succ, List.set_cons_zero]
              refine wpAnyH_take (i := 21) (v := undef) rfl (by kernel_rfl) (by kernel_rfl) (by kernel_rfl) (fun _ _ _ h => h) (Or.inr ⟨by kernel_rfl, rfl⟩) (by assumption) ?_
              simp only [Act.put, List.getElem_toArray, List.getElem_cons_succ, List.getElem_cons_zero, List.setIfInBounds_toArray, List.set_cons_succ, List.set_cons_zero]
              refine wpAnyH_take (i := 22) (v := undef) rfl (by kernel_rfl) (by kernel_rfl) (by kernel_rfl) (fun _ _ _ h => h) (Or.inr ⟨by kernel_rfl, rfl⟩) (by assumption) ?_
              simp only [Act.put, List.getElem_toArray, List.getElem_cons_succ, List.getElem_cons_zero, List.setIfInBounds_toArray, List.set_cons_succ, List.set_cons_zero]
              refine wpAnyH_take (i := 23) (v := undef) rfl (by kernel_rfl) (by kernel_rfl) (by kernel_rfl) (fun _ _ _ h => h) (Or.inr ⟨by kernel_rfl, rfl⟩) (by assumption) ?_
              simp only [Act.put, List.getElem_toArray, List.getElem_cons_succ, List.getElem_cons_zero, List.setIfInBounds_toArray, List.set_cons_succ, List.set_cons_zero]
              refine wpAnyH_take (i := 24) (v := undef) rfl (by kernel_rfl) (by kernel_rfl) (by kernel_rfl) (fun _ _ _ h => h) (Or.inr ⟨by kernel_rfl, rfl⟩) (by assumption) ?_
              simp only [Act.put, List.getElem_toArray, List.getElem_cons_succ, List.getElem_cons_zero, List.setIfInBounds_toArray, List.set_cons_succ, List.set_cons_zero]
              refine wpAnyH_take (i := 25) (v := .bool false) rfl (by kernel_rfl) (by kernel_rfl) (by kernel_rfl) (fun _ _ _ h => h) (Or.inl ⟨by kernel_rfl, fun w hSw => by first | (go_simp; done) | (dsimp only at hSw; obtain ⟨s0, s1, s2, s3, s4⟩ := hSw; go_simp; done) | rfl⟩) (by assumption) ?_
              simp only [Act.put, List.getElem_toArray, List.getElem_cons_succ, List.getElem_cons_zero, List.setIfInBounds_toArray, List.set_cons_succ, List.set_cons_zero]
              refine wpAnyH_done (by kernel_rfl) ?_ _
              go_wp2
              go_roundw
              case rel => exact ⟨m + 1, q + 1, by omega, by go_num, by rw [HNX.out], rfl⟩
              case measure => simp [intOf]; omega
          · obtain rfl : m = o3.sl.length := by omega
            rw [List.take_length, HON.out]
            go_wp2
            go_roundw
            case rel => exact ⟨k + 1, q, by omega, by go_num, rfl⟩
            case measure => simp [intOf]; omega
      · have h1 := HSZ.out.1
        have h2 := HSZ.out.2
        have d1 : decide ((o.sl.length : Int) ≤ (o3.sl.length : Int)) = true := decide_eq_true (by omega)
        have d2 : decide ((o3.sl.length : Int) ≤ (o.sl.length : Int) + (l.length : Int)) = true := decide_eq_true (by omega)
        go_wp2
        go_ret
        exact ⟨rfl, HBL.out.trans ⟨rfl, rfl, rfl, Nat.le_refl _, fun _ _ => rfl⟩⟩

end Hn
end Go.Proofs.Ytbmfhdlbbaabgaa

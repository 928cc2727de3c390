/- The law of tickets, at a code that is not too long. -/
import Derived.Test.YtbfgfedblnldcaaDoorCurTk3
import Derived.Test.YtbfgfedblnldcaaDoorTkSame
import Derived.Test.YtbfgfedblnldcaaDoorGtOne
import Derived.Test.YtbfgfedblnldcaaDoorCurNum
import Derived.Deep.RegionHeld3
namespace Go.Proofs.YtbfgfedblnldcaaDoor
namespace Cur
open Go.ChangeShapes Go.WideShapes Go.ChangeAt Go.RowKit
open Pk (own_form new_below join_below heap_new lt_of kept cell_at heap_old frozen_at info_of own_below own_ne own_ne')
open Tk (Lg Hd tkV tkB putS putT okB p2V Legs)
open Gt (lcells lc1 ML)
open Num (Tens)
set_option linter.unusedSimpArgs false
set_option linter.unusedVariables false

set_option maxRecDepth 100000 in
set_option maxHeartbeats 8000000 in
theorem ticket_law (a : Option Addr) (n cap : Nat) (w1 : World) (hb : n ≤ 1048576) (BY : Bytes w1 a n) (TN : Tens w1) (MM : ML w1) :
    Calls Tryd.prog 3 #[.slice a n cap] w1 fun e w' => e = .returned (.bool true) ∧ Below w1.heap.size w1 w' := by
  go_enter Tryd.func3, Tryd.ntmps3
  go_wp2_with fail
  refine (big_no a n cap _ hb).mono ?_
  rintro e w1 ⟨rfl, rfl⟩
  go_wp2_with fail
  refine (drawPut _ a n cap hb BY).mono ?_
  rintro e w2 ⟨⟨t, nm, va, vc, ls, rfl, D⟩, BL⟩
  replace BY := BY.on BL
  replace TN := TN.on BL
  replace MM := MM.on BL
  have hnm := D.nm
  have hln := D.len
  have HPI : Hid (∀ W : World, Legs W va ls → Tens W → _) := fun W h g => Tk.implPut_val t nm va ls vc W (by unfold maxLen; omega) (by omega) h g
  have HPS : Hid (∀ W : World, Legs W va ls → _) := fun W h => Tk.specPut_val t nm va ls vc W (by unfold maxLen; omega) (by omega) h
  have HOI : Hid (∀ W : World, Legs W va ls → _) := fun W h => Tk.implOk_val t nm va ls vc W (by unfold maxLen; omega) (by omega) h
  have HOS : Hid (∀ W : World, Legs W va ls → _) := fun W h => Tk.specOk_val t nm va ls vc W (by unfold maxLen; omega) (by omega) h
  have HSM : Hid (∀ (W : World) (b : Option Addr) (c2 : Nat), Legs W b ls → Legs W va ls → _) := fun W b c2 h g => Tk.sameTicket_same t nm b va ls c2 vc W (by omega) h g
  have HGS : Hid (okB t nm ls = true → Gt.Good (putS t nm ls) t nm ls) := fun h => ⟨h, by unfold putS; rw [if_pos h]⟩
  have hps := put_small t nm ls
  have HPZ : Hid ((putS t nm ls).size ≤ 1000) := hps
  obtain ⟨s1, hs1⟩ : ∃ s, putS t nm ls = s := ⟨_, rfl⟩
  obtain ⟨ok, hok⟩ : ∃ b, okB t nm ls = b := ⟨_, rfl⟩
  simp only [hs1, hok] at HPI HPS HOI HOS HGS HPZ
  clear hs1 hok hps hnm
  have NA := new_below w2 (tkB t nm va ls.length vc 26)
  have q1 := heap_new w2 (tkB t nm va ls.length vc 26)
  replace BL := join_below BL NA
  replace BY := BY.on NA
  replace TN := TN.on NA
  replace MM := MM.on NA
  replace D := D.on NA
  clear NA
  go_wp2_with fail
  generalize w2.heap.size = P1 at *
  generalize w2.alloc (tkB t nm va ls.length vc 26) = W3 at *
  refine (HPI.out _ D.legs TN).mono ?_
  rintro e w4 ⟨rfl, L⟩
  replace BL := join_below BL L
  replace BY := BY.on L
  replace TN := TN.on L
  replace MM := MM.on L
  replace D := D.on L
  replace q1 := kept L (lt_of q1) q1
  clear L
  have a0 : w4.cell? ⟨P1, 0, none⟩ = some (.int .i64 t.id) := cell_at q1 0
  have a1 : w4.cell? ⟨P1, 1, none⟩ = some (.string nm) := cell_at q1 1
  have a2 : w4.cell? ⟨P1, 2, none⟩ = some (.int .i64 t.cl) := cell_at q1 2
  have a3 : w4.cell? ⟨P1, 3, none⟩ = some (.int .i64 t.pr) := cell_at q1 3
  have a4 : w4.cell? ⟨P1, 4, none⟩ = some (.int .i64 t.fi) := cell_at q1 4
  have a5 : w4.cell? ⟨P1, 5, none⟩ = some (.int .i64 t.la) := cell_at q1 5
  have a6 : w4.cell? ⟨P1, 6, none⟩ = some (.slice va ls.length vc) := cell_at q1 6
  go_wp2_with fail
  clear a0 a1 a2 a3 a4 a5 a6
  refine (HPS.out _ D.legs).mono ?_
  rintro e V ⟨rfl, L⟩
  replace BL := join_below BL L
  replace BY := BY.on L
  replace TN := TN.on L
  replace MM := MM.on L
  replace D := D.on L
  replace q1 := kept L (lt_of q1) q1
  clear L HPI HPS
  go_wp2
  have HS : Hid (∀ W, Below V.heap.size V W → (fun w' : World => w'.cell? ⟨P1, 0, none⟩ = some (.int .i64 t.id) ∧ w'.cell? ⟨P1, 1, none⟩ = some (.string nm) ∧ w'.cell? ⟨P1, 2, none⟩ = some (.int .i64 t.cl) ∧ w'.cell? ⟨P1, 3, none⟩ = some (.int .i64 t.pr) ∧ w'.cell? ⟨P1, 4, none⟩ = some (.int .i64 t.fi) ∧ w'.cell? ⟨P1, 5, none⟩ = some (.int .i64 t.la) ∧ w'.cell? ⟨P1, 6, none⟩ = some (.slice va ls.length vc)) W) := fun W h => ⟨cell_at (kept h (lt_of q1) q1) 0, cell_at (kept h (lt_of q1) q1) 1, cell_at (kept h (lt_of q1) q1) 2, cell_at (kept h (lt_of q1) q1) 3, cell_at (kept h (lt_of q1) q1) 4, cell_at (kept h (lt_of q1) q1) 5, cell_at (kept h (lt_of q1) q1) 6⟩
  have HI : Hid (∀ W, Below V.heap.size V W → Legs W va ls) := fun W h => (D.on h).legs
  have K0 := (Below.refl V.heap.size V).drew
  refine wp_region_held_drew (S := (fun w' : World => w'.cell? ⟨P1, 0, none⟩ = some (.int .i64 t.id) ∧ w'.cell? ⟨P1, 1, none⟩ = some (.string nm) ∧ w'.cell? ⟨P1, 2, none⟩ = some (.int .i64 t.cl) ∧ w'.cell? ⟨P1, 3, none⟩ = some (.int .i64 t.pr) ∧ w'.cell? ⟨P1, 4, none⟩ = some (.int .i64 t.fi) ∧ w'.cell? ⟨P1, 5, none⟩ = some (.int .i64 t.la) ∧ w'.cell? ⟨P1, 6, none⟩ = some (.slice va ls.length vc))) (by kernel_rfl) ?_ (fun hHeld => ?_)
  · exact HS.out _ K0
  refine wpAnyH_take (i := 0) (v := .bool ok) rfl (by kernel_rfl) (by kernel_rfl) (by kernel_rfl) (fun _ _ _ h => h) (Or.inl ⟨by kernel_rfl, fun w hSw => by first | (go_simp; done) | (dsimp only at hSw; obtain ⟨s0, s1, s2, s3, s4, s5, s6⟩ := hSw; go_simp; done) | rfl⟩) (by assumption) ?_
  simp only [Act.put, List.getElem_toArray, List.getElem_cons_succ, List.getElem_cons_zero, List.setIfInBounds_toArray, List.set_cons_succ, List.set_cons_zero]
  refine wpAnyH_take (i := 1) (v := .bool ok) rfl (by kernel_rfl) (by kernel_rfl) (by kernel_rfl) (fun _ _ _ h => h) (Or.inl ⟨by kernel_rfl, fun w hSw => by first | (go_simp; done) | (dsimp only at hSw; obtain ⟨s0, s1, s2, s3, s4, s5, s6⟩ := hSw; go_simp; done) | rfl⟩) (by assumption) ?_
  simp only [Act.put, List.getElem_toArray, List.getElem_cons_succ, List.getElem_cons_zero, List.setIfInBounds_toArray, List.set_cons_succ, List.set_cons_zero]
  refine wpAnyH_take (i := 2) (v := .bool false) rfl (by kernel_rfl) (by kernel_rfl) (by kernel_rfl) (fun _ _ _ h => h) (Or.inl ⟨by kernel_rfl, fun w hSw => by first | (first | (go_simp; done) | (go_simp; simp; done) | (cases ok <;> rfl)) | (go_simp; done) | (dsimp only at hSw; obtain ⟨s0, s1, s2, s3, s4, s5, s6⟩ := hSw; go_simp; done) | rfl⟩) (by assumption) ?_
  simp only [Act.put, List.getElem_toArray, List.getElem_cons_succ, List.getElem_cons_zero, List.setIfInBounds_toArray, List.set_cons_succ, List.set_cons_zero]
  refine wpAnyH_take (i := 3) (v := .bool false) rfl (by kernel_rfl) (by kernel_rfl) (by kernel_rfl) (fun _ _ _ h => h) (Or.inl ⟨by kernel_rfl, fun w hSw => by first | (go_simp; done) | (dsimp only at hSw; obtain ⟨s0, s1, s2, s3, s4, s5, s6⟩ := hSw; go_simp; done) | rfl⟩) (by assumption) ?_
  simp only [Act.put, List.getElem_toArray, List.getElem_cons_succ, List.getElem_cons_zero, List.setIfInBounds_toArray, List.set_cons_succ, List.set_cons_zero]
  refine wpAnyH_take (i := 4) (v := .string s1) rfl (by kernel_rfl) (by kernel_rfl) (by kernel_rfl) (fun _ _ _ h => h) (Or.inl ⟨by kernel_rfl, fun w hSw => by first | (go_simp; done) | (dsimp only at hSw; obtain ⟨s0, s1, s2, s3, s4, s5, s6⟩ := hSw; go_simp; done) | rfl⟩) (by assumption) ?_
  simp only [Act.put, List.getElem_toArray, List.getElem_cons_succ, List.getElem_cons_zero, List.setIfInBounds_toArray, List.set_cons_succ, List.set_cons_zero]
  refine wpAnyH_take (i := 5) (v := .string s1) rfl (by kernel_rfl) (by kernel_rfl) (by kernel_rfl) (fun _ _ _ h => h) (Or.inl ⟨by kernel_rfl, fun w hSw => by first | (go_simp; done) | (dsimp only at hSw; obtain ⟨s0, s1, s2, s3, s4, s5, s6⟩ := hSw; go_simp; done) | rfl⟩) (by assumption) ?_
  simp only [Act.put, List.getElem_toArray, List.getElem_cons_succ, List.getElem_cons_zero, List.setIfInBounds_toArray, List.set_cons_succ, List.set_cons_zero]
  refine wpAnyH_take (i := 6) (v := .bool false) rfl (by kernel_rfl) (by kernel_rfl) (by kernel_rfl) (fun _ _ _ h => h) (Or.inl ⟨by kernel_rfl, fun w hSw => by first | (first | (go_simp; done) | (go_simp; simp; done)) | (go_simp; done) | (dsimp only at hSw; obtain ⟨s0, s1, s2, s3, s4, s5, s6⟩ := hSw; go_simp; done) | rfl⟩) (by assumption) ?_
  simp only [Act.put, List.getElem_toArray, List.getElem_cons_succ, List.getElem_cons_zero, List.setIfInBounds_toArray, List.set_cons_succ, List.set_cons_zero]
  refine wpAnyH_take (i := 7) (v := .bool false) rfl (by kernel_rfl) (by kernel_rfl) (by kernel_rfl) (fun _ _ _ h => h) (Or.inl ⟨by kernel_rfl, fun w hSw => by first | (go_simp; done) | (dsimp only at hSw; obtain ⟨s0, s1, s2, s3, s4, s5, s6⟩ := hSw; go_simp; done) | rfl⟩) (by assumption) ?_
  simp only [Act.put, List.getElem_toArray, List.getElem_cons_succ, List.getElem_cons_zero, List.setIfInBounds_toArray, List.set_cons_succ, List.set_cons_zero]
  refine wpAnyH_take (i := 8) (v := .bool false) rfl (by kernel_rfl) (by kernel_rfl) (by kernel_rfl) (fun _ _ _ h => h) (Or.inl ⟨by kernel_rfl, fun w hSw => by first | (go_simp; done) | (dsimp only at hSw; obtain ⟨s0, s1, s2, s3, s4, s5, s6⟩ := hSw; go_simp; done) | rfl⟩) (by assumption) ?_
  simp only [Act.put, List.getElem_toArray, List.getElem_cons_succ, List.getElem_cons_zero, List.setIfInBounds_toArray, List.set_cons_succ, List.set_cons_zero]
  refine wpAnyH_take (i := 9) (v := tkV t nm va ls.length vc) rfl (by kernel_rfl) (by kernel_rfl) (by kernel_rfl) (fun _ _ _ h => h) (Or.inl ⟨by kernel_rfl, fun w hSw => by first | (go_simp; done) | (dsimp only at hSw; obtain ⟨s0, s1, s2, s3, s4, s5, s6⟩ := hSw; go_simp; done) | rfl⟩) (by assumption) ?_
  simp only [Act.put, List.getElem_toArray, List.getElem_cons_succ, List.getElem_cons_zero, List.setIfInBounds_toArray, List.set_cons_succ, List.set_cons_zero]
  refine wpAnyH_take (i := 11) (v := tkV t nm va ls.length vc) rfl (by kernel_rfl) (by kernel_rfl) (by kernel_rfl) (fun _ _ _ h => h) (Or.inl ⟨by kernel_rfl, fun w hSw => by first | (go_simp; done) | (dsimp only at hSw; obtain ⟨s0, s1, s2, s3, s4, s5, s6⟩ := hSw; go_simp; done) | rfl⟩) (by assumption) ?_
  simp only [Act.put, List.getElem_toArray, List.getElem_cons_succ, List.getElem_cons_zero, List.setIfInBounds_toArray, List.set_cons_succ, List.set_cons_zero]
  refine wpAnyH_ready (rs := [10]) (by kernel_rfl) (by simp) ?_
  refine AllReadyH.cons rfl (fun K hK => ?_) AllReadyH.nil
  go_simp
  go_wp2_with ((go_at_call 8; (with_reducible refine (HOI.out _ ?_).mono ?_); (exact HI.out _ K0); rintro e u1 ⟨rfl, L1⟩; have K1 := join_below K0 L1))
  refine hK.out _ _ ?_ (fun hHeld2 => ?_)
  · exact HS.out _ K1
  clear hK K hHeld
  have hHeld := hHeld2
  clear hHeld2
  refine wpAnyH_ready (rs := [12]) (by kernel_rfl) (by simp) ?_
  refine AllReadyH.cons rfl (fun K hK => ?_) AllReadyH.nil
  go_simp
  go_wp2_with ((go_at_call 9; (with_reducible refine (HOS.out _ ?_).mono ?_); (exact HI.out _ K1); rintro e u2 ⟨rfl, L2⟩; have K2 := join_below K1 L2))
  refine hK.out _ _ ?_ (fun hHeld2 => ?_)
  · exact HS.out _ K2
  clear hK K hHeld
  have hHeld := hHeld2
  clear hHeld2
  refine wpAnyH_take (i := 13) (v := .bool false) rfl (by kernel_rfl) (by kernel_rfl) (by kernel_rfl) (fun _ _ _ h => h) (Or.inl ⟨by kernel_rfl, fun w hSw => by first | (first | (go_simp; done) | (go_simp; simp; done) | (cases ok <;> rfl)) | (go_simp; done) | (dsimp only at hSw; obtain ⟨s0, s1, s2, s3, s4, s5, s6⟩ := hSw; go_simp; done) | rfl⟩) (by assumption) ?_
  simp only [Act.put, List.getElem_toArray, List.getElem_cons_succ, List.getElem_cons_zero, List.setIfInBounds_toArray, List.set_cons_succ, List.set_cons_zero]
  refine wpAnyH_take (i := 14) (v := .bool false) rfl (by kernel_rfl) (by kernel_rfl) (by kernel_rfl) (fun _ _ _ h => h) (Or.inl ⟨by kernel_rfl, fun w hSw => by first | (go_simp; done) | (dsimp only at hSw; obtain ⟨s0, s1, s2, s3, s4, s5, s6⟩ := hSw; go_simp; done) | rfl⟩) (by assumption) ?_
  simp only [Act.put, List.getElem_toArray, List.getElem_cons_succ, List.getElem_cons_zero, List.setIfInBounds_toArray, List.set_cons_succ, List.set_cons_zero]
  refine wpAnyH_done (by kernel_rfl) ?_ _
  have LV := K2
  clear HS HI hHeld HOI HOS
  replace BL := join_below BL LV
  replace BY := BY.on LV
  replace TN := TN.on LV
  replace MM := MM.on LV
  replace D := D.on LV
  replace q1 := kept LV (lt_of q1) q1
  clear LV K0 K1 K2
  cases ok
  · clear D q1 HSM HGS HPZ
    go_wp2_with fail
    refine (drawGet _ a n cap hb BY).mono ?_
    rintro e x1 ⟨⟨r, rfl, hr⟩, L⟩
    replace BL := join_below BL L
    replace BY := BY.on L
    replace TN := TN.on L
    replace MM := MM.on L
    clear L BY
    by_cases hg : ∃ t2 nm2 ls2, Gt.Good r t2 nm2 ls2
    · obtain ⟨t2, nm2, ls2, hg⟩ := hg
      have HGG : Hid (Gt.Good r t2 nm2 ls2) := hg
      have HPR : Hid (putS t2 nm2 ls2 = r ∧ okB t2 nm2 ls2 = true) := ⟨by unfold putS; rw [if_pos hg.1]; exact hg.2, hg.1⟩
      have hpa := Tk.okB_parts t2 nm2 ls2 hg.1
      have HN2 : Hid (nm2.size ≤ 40 ∧ ls2.length ≤ 6) := ⟨hpa.2.1, hpa.2.2.1.2⟩
      clear hg hpa
      have HG1 := Gt.implGet_val r x1 (by omega) MM TN
      go_wp2_with fail
      refine HG1.mono ?_
      rintro e x2 ⟨hend, L⟩
      clear HG1
      rcases Or.symm hend with ⟨hn3, -⟩ | ⟨t3, nm3, ls3, a2, c2, hg3, rfl, O2⟩
      · exact absurd HGG.out (hn3 _ _ _)
      obtain ⟨rfl, rfl, rfl⟩ := Gt.good_one HGG.out hg3
      clear hg3
      replace BL := join_below BL L
      replace TN := TN.on L
      replace MM := MM.on L
      clear L
      have I2 : Legs x2 a2 ls2 := by
        obtain ⟨a5, c5, e5, I⟩ := Gt.own_legs O2
        simp only [Value.slice.injEq, true_and] at e5
        rw [e5.1]
        exact I
      clear O2
      have NA := new_below x2 (tkB t2 nm2 a2 ls2.length c2 26)
      have q6 := heap_new x2 (tkB t2 nm2 a2 ls2.length c2 26)
      replace BL := join_below BL NA
      replace TN := TN.on NA
      replace MM := MM.on NA
      replace I2 := I2.on NA
      clear NA
      go_wp2_with fail
      generalize x2.heap.size = P6 at *
      generalize x2.alloc (tkB t2 nm2 a2 ls2.length c2 26) = x3 at *
      refine (Gt.specGet_val r x3 (by omega) (fun _ _ _ h => Gt.shape h)).mono ?_
      rintro e x4 ⟨hend, L⟩
      rcases Or.symm hend with ⟨hn3, -⟩ | ⟨t3, nm3, ls3, a3, c3, hg3, rfl, O3⟩
      · exact absurd HGG.out (hn3 _ _ _)
      obtain ⟨rfl, rfl, rfl⟩ := Gt.good_one HGG.out hg3
      clear hg3 O3
      replace BL := join_below BL L
      replace TN := TN.on L
      replace MM := MM.on L
      replace I2 := I2.on L
      replace q6 := kept L (lt_of q6) q6
      clear L
      have NA := new_below x4 (tkB t2 nm2 a3 ls2.length c3 26)
      have q7 := heap_new x4 (tkB t2 nm2 a3 ls2.length c3 26)
      replace BL := join_below BL NA
      replace TN := TN.on NA
      replace MM := MM.on NA
      replace I2 := I2.on NA
      replace q6 := kept NA (lt_of q6) q6
      clear NA
      have za0 : (x4.alloc (tkB t2 nm2 a3 ls2.length c3 26)).cell? ⟨P6, 0, none⟩ = some (.int .i64 t2.id) := cell_at q6 0
      have za1 : (x4.alloc (tkB t2 nm2 a3 ls2.length c3 26)).cell? ⟨P6, 1, none⟩ = some (.string nm2) := cell_at q6 1
      have za2 : (x4.alloc (tkB t2 nm2 a3 ls2.length c3 26)).cell? ⟨P6, 2, none⟩ = some (.int .i64 t2.cl) := cell_at q6 2
      have za3 : (x4.alloc (tkB t2 nm2 a3 ls2.length c3 26)).cell? ⟨P6, 3, none⟩ = some (.int .i64 t2.pr) := cell_at q6 3
      have za4 : (x4.alloc (tkB t2 nm2 a3 ls2.length c3 26)).cell? ⟨P6, 4, none⟩ = some (.int .i64 t2.fi) := cell_at q6 4
      have za5 : (x4.alloc (tkB t2 nm2 a3 ls2.length c3 26)).cell? ⟨P6, 5, none⟩ = some (.int .i64 t2.la) := cell_at q6 5
      have za6 : (x4.alloc (tkB t2 nm2 a3 ls2.length c3 26)).cell? ⟨P6, 6, none⟩ = some (.slice a2 ls2.length c2) := cell_at q6 6
      have HP2 := Tk.implPut_val t2 nm2 a2 ls2 c2 (x4.alloc (tkB t2 nm2 a3 ls2.length c3 26)) (by have := HN2.out; unfold maxLen; omega) (by have := HN2.out; omega) I2 TN
      rw [HPR.out.1, HPR.out.2] at HP2
      go_wp2_with fail
      refine HP2.mono ?_
      rintro e x5 ⟨rfl, L⟩
      clear HP2
      replace BL := join_below BL L
      replace TN := TN.on L
      replace MM := MM.on L
      replace I2 := I2.on L
      replace q6 := kept L (lt_of q6) q6
      replace q7 := kept L (lt_of q7) q7
      go_wp2
      go_ret
      exact ⟨rfl, BL⟩
    · have HNG : Hid (∀ t nm ls, ¬ Gt.Good r t nm ls) := fun t nm ls h => hg ⟨t, nm, ls, h⟩
      clear hg
      have HG1 := Gt.implGet_val r x1 (by omega) MM TN
      go_wp2_with fail
      refine HG1.mono ?_
      rintro e x2 ⟨hend, L⟩
      clear HG1
      rcases hend with ⟨t3, nm3, ls3, a2, c2, hg3, rfl, O2⟩ | ⟨-, rfl⟩
      · exact absurd hg3 (HNG.out _ _ _)
      replace BL := join_below BL L
      replace TN := TN.on L
      replace MM := MM.on L
      clear L
      have NA := new_below x2 (tkB ⟨0, 0, 0, 0, 0⟩ ⟨#[]⟩ none 0 0 26)
      have q6 := heap_new x2 (tkB ⟨0, 0, 0, 0, 0⟩ ⟨#[]⟩ none 0 0 26)
      replace BL := join_below BL NA
      replace TN := TN.on NA
      replace MM := MM.on NA
      clear NA
      go_wp2_with fail
      generalize x2.heap.size = P6 at *
      generalize x2.alloc (tkB ⟨0, 0, 0, 0, 0⟩ ⟨#[]⟩ none 0 0 26) = x3 at *
      refine (Gt.specGet_val r x3 (by omega) (fun _ _ _ h => Gt.shape h)).mono ?_
      rintro e x4 ⟨hend, L⟩
      rcases hend with ⟨t3, nm3, ls3, a3, c3, hg3, rfl, O3⟩ | ⟨-, rfl⟩
      · exact absurd hg3 (HNG.out _ _ _)
      replace BL := join_below BL L
      replace TN := TN.on L
      replace MM := MM.on L
      replace q6 := kept L (lt_of q6) q6
      clear L
      have NA := new_below x4 (tkB ⟨0, 0, 0, 0, 0⟩ ⟨#[]⟩ none 0 0 26)
      have q7 := heap_new x4 (tkB ⟨0, 0, 0, 0, 0⟩ ⟨#[]⟩ none 0 0 26)
      replace BL := join_below BL NA
      replace TN := TN.on NA
      replace MM := MM.on NA
      replace q6 := kept NA (lt_of q6) q6
      clear NA
      have za0 : (x4.alloc (tkB ⟨0, 0, 0, 0, 0⟩ ⟨#[]⟩ none 0 0 26)).cell? ⟨P6, 0, none⟩ = some (.int .i64 0) := cell_at q6 0
      have za1 : (x4.alloc (tkB ⟨0, 0, 0, 0, 0⟩ ⟨#[]⟩ none 0 0 26)).cell? ⟨P6, 1, none⟩ = some (.string ⟨#[]⟩) := cell_at q6 1
      have za2 : (x4.alloc (tkB ⟨0, 0, 0, 0, 0⟩ ⟨#[]⟩ none 0 0 26)).cell? ⟨P6, 2, none⟩ = some (.int .i64 0) := cell_at q6 2
      have za3 : (x4.alloc (tkB ⟨0, 0, 0, 0, 0⟩ ⟨#[]⟩ none 0 0 26)).cell? ⟨P6, 3, none⟩ = some (.int .i64 0) := cell_at q6 3
      have za4 : (x4.alloc (tkB ⟨0, 0, 0, 0, 0⟩ ⟨#[]⟩ none 0 0 26)).cell? ⟨P6, 4, none⟩ = some (.int .i64 0) := cell_at q6 4
      have za5 : (x4.alloc (tkB ⟨0, 0, 0, 0, 0⟩ ⟨#[]⟩ none 0 0 26)).cell? ⟨P6, 5, none⟩ = some (.int .i64 0) := cell_at q6 5
      have za6 : (x4.alloc (tkB ⟨0, 0, 0, 0, 0⟩ ⟨#[]⟩ none 0 0 26)).cell? ⟨P6, 6, none⟩ = some (.slice none 0 0) := cell_at q6 6
      have HP2 := Tk.implPut_val ⟨0, 0, 0, 0, 0⟩ ⟨#[]⟩ none [] 0 (x4.alloc (tkB ⟨0, 0, 0, 0, 0⟩ ⟨#[]⟩ none 0 0 26)) (by decide) (by decide) (Or.inl rfl) TN
      generalize putS ⟨0, 0, 0, 0, 0⟩ ⟨#[]⟩ [] = s9 at *
      generalize okB ⟨0, 0, 0, 0, 0⟩ ⟨#[]⟩ [] = o9 at *
      go_wp2_with fail
      refine HP2.mono ?_
      rintro e x5 ⟨rfl, L⟩
      clear HP2
      replace BL := join_below BL L
      replace TN := TN.on L
      replace MM := MM.on L
      replace q6 := kept L (lt_of q6) q6
      replace q7 := kept L (lt_of q7) q7
      go_wp2
      go_ret
      exact ⟨rfl, BL⟩
  · have HG0 := Gt.implGet_val s1 u2 (by have := HPZ.out; omega) MM TN
    go_wp2_with fail
    refine HG0.mono ?_
    rintro e y1 ⟨hend, L⟩
    clear HG0
    rcases Or.symm hend with ⟨hn3, -⟩ | ⟨t3, nm3, ls3, b2, cb, hg3, rfl, O2⟩
    · exact absurd (HGS.out (by first | rfl | exact trivial)) (hn3 _ _ _)
    obtain ⟨rfl, rfl, rfl⟩ := Gt.good_one (HGS.out (by first | rfl | exact trivial)) hg3
    clear hg3
    replace BL := join_below BL L
    replace BY := BY.on L
    replace TN := TN.on L
    replace MM := MM.on L
    replace D := D.on L
    replace q1 := kept L (lt_of q1) q1
    clear L
    have I2 : Legs y1 b2 ls := by
      obtain ⟨a5, c5, e5, I⟩ := Gt.own_legs O2
      simp only [Value.slice.injEq, true_and] at e5
      rw [e5.1]
      exact I
    clear O2
    have NA := new_below y1 (tkB t nm b2 ls.length cb 26)
    have q2 := heap_new y1 (tkB t nm b2 ls.length cb 26)
    replace BL := join_below BL NA
    replace BY := BY.on NA
    replace TN := TN.on NA
    replace MM := MM.on NA
    replace D := D.on NA
    replace q1 := kept NA (lt_of q1) q1
    replace I2 := I2.on NA
    clear NA
    have za0 : (y1.alloc (tkB t nm b2 ls.length cb 26)).cell? ⟨y1.heap.size, 0, none⟩ = some (.int .i64 t.id) := cell_at q2 0
    have za1 : (y1.alloc (tkB t nm b2 ls.length cb 26)).cell? ⟨y1.heap.size, 1, none⟩ = some (.string nm) := cell_at q2 1
    have za2 : (y1.alloc (tkB t nm b2 ls.length cb 26)).cell? ⟨y1.heap.size, 2, none⟩ = some (.int .i64 t.cl) := cell_at q2 2
    have za3 : (y1.alloc (tkB t nm b2 ls.length cb 26)).cell? ⟨y1.heap.size, 3, none⟩ = some (.int .i64 t.pr) := cell_at q2 3
    have za4 : (y1.alloc (tkB t nm b2 ls.length cb 26)).cell? ⟨y1.heap.size, 4, none⟩ = some (.int .i64 t.fi) := cell_at q2 4
    have za5 : (y1.alloc (tkB t nm b2 ls.length cb 26)).cell? ⟨y1.heap.size, 5, none⟩ = some (.int .i64 t.la) := cell_at q2 5
    have za6 : (y1.alloc (tkB t nm b2 ls.length cb 26)).cell? ⟨y1.heap.size, 6, none⟩ = some (.slice b2 ls.length cb) := cell_at q2 6
    have zb0 : (y1.alloc (tkB t nm b2 ls.length cb 26)).cell? ⟨P1, 0, none⟩ = some (.int .i64 t.id) := cell_at q1 0
    have zb1 : (y1.alloc (tkB t nm b2 ls.length cb 26)).cell? ⟨P1, 1, none⟩ = some (.string nm) := cell_at q1 1
    have zb2 : (y1.alloc (tkB t nm b2 ls.length cb 26)).cell? ⟨P1, 2, none⟩ = some (.int .i64 t.cl) := cell_at q1 2
    have zb3 : (y1.alloc (tkB t nm b2 ls.length cb 26)).cell? ⟨P1, 3, none⟩ = some (.int .i64 t.pr) := cell_at q1 3
    have zb4 : (y1.alloc (tkB t nm b2 ls.length cb 26)).cell? ⟨P1, 4, none⟩ = some (.int .i64 t.fi) := cell_at q1 4
    have zb5 : (y1.alloc (tkB t nm b2 ls.length cb 26)).cell? ⟨P1, 5, none⟩ = some (.int .i64 t.la) := cell_at q1 5
    have zb6 : (y1.alloc (tkB t nm b2 ls.length cb 26)).cell? ⟨P1, 6, none⟩ = some (.slice va ls.length vc) := cell_at q1 6
    have HSV := HSM.out (y1.alloc (tkB t nm b2 ls.length cb 26)) b2 cb I2 D.legs
    go_wp2_with fail
    refine HSV.mono ?_
    rintro e y3 ⟨rfl, L⟩
    clear HSV
    replace BL := join_below BL L
    replace BY := BY.on L
    replace TN := TN.on L
    replace MM := MM.on L
    replace D := D.on L
    replace q1 := kept L (lt_of q1) q1
    replace I2 := I2.on L
    replace q2 := kept L (lt_of q2) q2
    clear L D q1 q2 I2 HSM HGS HPZ
    go_wp2_with fail
    refine (drawGet _ a n cap hb BY).mono ?_
    rintro e x1 ⟨⟨r, rfl, hr⟩, L⟩
    replace BL := join_below BL L
    replace BY := BY.on L
    replace TN := TN.on L
    replace MM := MM.on L
    clear L BY
    by_cases hg : ∃ t2 nm2 ls2, Gt.Good r t2 nm2 ls2
    · obtain ⟨t2, nm2, ls2, hg⟩ := hg
      have HGG : Hid (Gt.Good r t2 nm2 ls2) := hg
      have HPR : Hid (putS t2 nm2 ls2 = r ∧ okB t2 nm2 ls2 = true) := ⟨by unfold putS; rw [if_pos hg.1]; exact hg.2, hg.1⟩
      have hpa := Tk.okB_parts t2 nm2 ls2 hg.1
      have HN2 : Hid (nm2.size ≤ 40 ∧ ls2.length ≤ 6) := ⟨hpa.2.1, hpa.2.2.1.2⟩
      clear hg hpa
      have HG1 := Gt.implGet_val r x1 (by omega) MM TN
      go_wp2_with fail
      refine HG1.mono ?_
      rintro e x2 ⟨hend, L⟩
      clear HG1
      rcases Or.symm hend with ⟨hn3, -⟩ | ⟨t3, nm3, ls3, a2, c2, hg3, rfl, O2⟩
      · exact absurd HGG.out (hn3 _ _ _)
      obtain ⟨rfl, rfl, rfl⟩ := Gt.good_one HGG.out hg3
      clear hg3
      replace BL := join_below BL L
      replace TN := TN.on L
      replace MM := MM.on L
      clear L
      have I2 : Legs x2 a2 ls2 := by
        obtain ⟨a5, c5, e5, I⟩ := Gt.own_legs O2
        simp only [Value.slice.injEq, true_and] at e5
        rw [e5.1]
        exact I
      clear O2
      have NA := new_below x2 (tkB t2 nm2 a2 ls2.length c2 26)
      have q6 := heap_new x2 (tkB t2 nm2 a2 ls2.length c2 26)
      replace BL := join_below BL NA
      replace TN := TN.on NA
      replace MM := MM.on NA
      replace I2 := I2.on NA
      clear NA
      go_wp2_with fail
      generalize x2.heap.size = P6 at *
      generalize x2.alloc (tkB t2 nm2 a2 ls2.length c2 26) = x3 at *
      refine (Gt.specGet_val r x3 (by omega) (fun _ _ _ h => Gt.shape h)).mono ?_
      rintro e x4 ⟨hend, L⟩
      rcases Or.symm hend with ⟨hn3, -⟩ | ⟨t3, nm3, ls3, a3, c3, hg3, rfl, O3⟩
      · exact absurd HGG.out (hn3 _ _ _)
      obtain ⟨rfl, rfl, rfl⟩ := Gt.good_one HGG.out hg3
      clear hg3 O3
      replace BL := join_below BL L
      replace TN := TN.on L
      replace MM := MM.on L
      replace I2 := I2.on L
      replace q6 := kept L (lt_of q6) q6
      clear L
      have NA := new_below x4 (tkB t2 nm2 a3 ls2.length c3 26)
      have q7 := heap_new x4 (tkB t2 nm2 a3 ls2.length c3 26)
      replace BL := join_below BL NA
      replace TN := TN.on NA
      replace MM := MM.on NA
      replace I2 := I2.on NA
      replace q6 := kept NA (lt_of q6) q6
      clear NA
      have za0 : (x4.alloc (tkB t2 nm2 a3 ls2.length c3 26)).cell? ⟨P6, 0, none⟩ = some (.int .i64 t2.id) := cell_at q6 0
      have za1 : (x4.alloc (tkB t2 nm2 a3 ls2.length c3 26)).cell? ⟨P6, 1, none⟩ = some (.string nm2) := cell_at q6 1
      have za2 : (x4.alloc (tkB t2 nm2 a3 ls2.length c3 26)).cell? ⟨P6, 2, none⟩ = some (.int .i64 t2.cl) := cell_at q6 2
      have za3 : (x4.alloc (tkB t2 nm2 a3 ls2.length c3 26)).cell? ⟨P6, 3, none⟩ = some (.int .i64 t2.pr) := cell_at q6 3
      have za4 : (x4.alloc (tkB t2 nm2 a3 ls2.length c3 26)).cell? ⟨P6, 4, none⟩ = some (.int .i64 t2.fi) := cell_at q6 4
      have za5 : (x4.alloc (tkB t2 nm2 a3 ls2.length c3 26)).cell? ⟨P6, 5, none⟩ = some (.int .i64 t2.la) := cell_at q6 5
      have za6 : (x4.alloc (tkB t2 nm2 a3 ls2.length c3 26)).cell? ⟨P6, 6, none⟩ = some (.slice a2 ls2.length c2) := cell_at q6 6
      have HP2 := Tk.implPut_val t2 nm2 a2 ls2 c2 (x4.alloc (tkB t2 nm2 a3 ls2.length c3 26)) (by have := HN2.out; unfold maxLen; omega) (by have := HN2.out; omega) I2 TN
      rw [HPR.out.1, HPR.out.2] at HP2
      go_wp2_with fail
      refine HP2.mono ?_
      rintro e x5 ⟨rfl, L⟩
      clear HP2
      replace BL := join_below BL L
      replace TN := TN.on L
      replace MM := MM.on L
      replace I2 := I2.on L
      replace q6 := kept L (lt_of q6) q6
      replace q7 := kept L (lt_of q7) q7
      go_wp2
      go_ret
      exact ⟨rfl, BL⟩
    · have HNG : Hid (∀ t nm ls, ¬ Gt.Good r t nm ls) := fun t nm ls h => hg ⟨t, nm, ls, h⟩
      clear hg
      have HG1 := Gt.implGet_val r x1 (by omega) MM TN
      go_wp2_with fail
      refine HG1.mono ?_
      rintro e x2 ⟨hend, L⟩
      clear HG1
      rcases hend with ⟨t3, nm3, ls3, a2, c2, hg3, rfl, O2⟩ | ⟨-, rfl⟩
      · exact absurd hg3 (HNG.out _ _ _)
      replace BL := join_below BL L
      replace TN := TN.on L
      replace MM := MM.on L
      clear L
      have NA := new_below x2 (tkB ⟨0, 0, 0, 0, 0⟩ ⟨#[]⟩ none 0 0 26)
      have q6 := heap_new x2 (tkB ⟨0, 0, 0, 0, 0⟩ ⟨#[]⟩ none 0 0 26)
      replace BL := join_below BL NA
      replace TN := TN.on NA
      replace MM := MM.on NA
      clear NA
      go_wp2_with fail
      generalize x2.heap.size = P6 at *
      generalize x2.alloc (tkB ⟨0, 0, 0, 0, 0⟩ ⟨#[]⟩ none 0 0 26) = x3 at *
      refine (Gt.specGet_val r x3 (by omega) (fun _ _ _ h => Gt.shape h)).mono ?_
      rintro e x4 ⟨hend, L⟩
      rcases hend with ⟨t3, nm3, ls3, a3, c3, hg3, rfl, O3⟩ | ⟨-, rfl⟩
      · exact absurd hg3 (HNG.out _ _ _)
      replace BL := join_below BL L
      replace TN := TN.on L
      replace MM := MM.on L
      replace q6 := kept L (lt_of q6) q6
      clear L
      have NA := new_below x4 (tkB ⟨0, 0, 0, 0, 0⟩ ⟨#[]⟩ none 0 0 26)
      have q7 := heap_new x4 (tkB ⟨0, 0, 0, 0, 0⟩ ⟨#[]⟩ none 0 0 26)
      replace BL := join_below BL NA
      replace TN := TN.on NA
      replace MM := MM.on NA
      replace q6 := kept NA (lt_of q6) q6
      clear NA
      have za0 : (x4.alloc (tkB ⟨0, 0, 0, 0, 0⟩ ⟨#[]⟩ none 0 0 26)).cell? ⟨P6, 0, none⟩ = some (.int .i64 0) := cell_at q6 0
      have za1 : (x4.alloc (tkB ⟨0, 0, 0, 0, 0⟩ ⟨#[]⟩ none 0 0 26)).cell? ⟨P6, 1, none⟩ = some (.string ⟨#[]⟩) := cell_at q6 1
      have za2 : (x4.alloc (tkB ⟨0, 0, 0, 0, 0⟩ ⟨#[]⟩ none 0 0 26)).cell? ⟨P6, 2, none⟩ = some (.int .i64 0) := cell_at q6 2
      have za3 : (x4.alloc (tkB ⟨0, 0, 0, 0, 0⟩ ⟨#[]⟩ none 0 0 26)).cell? ⟨P6, 3, none⟩ = some (.int .i64 0) := cell_at q6 3
      have za4 : (x4.alloc (tkB ⟨0, 0, 0, 0, 0⟩ ⟨#[]⟩ none 0 0 26)).cell? ⟨P6, 4, none⟩ = some (.int .i64 0) := cell_at q6 4
      have za5 : (x4.alloc (tkB ⟨0, 0, 0, 0, 0⟩ ⟨#[]⟩ none 0 0 26)).cell? ⟨P6, 5, none⟩ = some (.int .i64 0) := cell_at q6 5
      have za6 : (x4.alloc (tkB ⟨0, 0, 0, 0, 0⟩ ⟨#[]⟩ none 0 0 26)).cell? ⟨P6, 6, none⟩ = some (.slice none 0 0) := cell_at q6 6
      have HP2 := Tk.implPut_val ⟨0, 0, 0, 0, 0⟩ ⟨#[]⟩ none [] 0 (x4.alloc (tkB ⟨0, 0, 0, 0, 0⟩ ⟨#[]⟩ none 0 0 26)) (by decide) (by decide) (Or.inl rfl) TN
      generalize putS ⟨0, 0, 0, 0, 0⟩ ⟨#[]⟩ [] = s9 at *
      generalize okB ⟨0, 0, 0, 0, 0⟩ ⟨#[]⟩ [] = o9 at *
      go_wp2_with fail
      refine HP2.mono ?_
      rintro e x5 ⟨rfl, L⟩
      clear HP2
      replace BL := join_below BL L
      replace TN := TN.on L
      replace MM := MM.on L
      replace q6 := kept L (lt_of q6) q6
      replace q7 := kept L (lt_of q7) q7
      go_wp2
      go_ret
      exact ⟨rfl, BL⟩

end Cur
end Go.Proofs.YtbfgfedblnldcaaDoor

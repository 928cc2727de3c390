/- The contract of the model's OfficeText. -/
import Derived.Test.YtbmcnkfhiiicjaaDoorOtMath
import Derived.Test.YtbmcnkfhiiicjaaDoorOtRow
import Derived.Test.YtbmcnkfhiiicjaaDoorNumDec
namespace Go.Proofs.YtbmcnkfhiiicjaaDoor
namespace Ot
open Go.ChangeShapes Go.WideShapes Go.ChangeAt Go.RowKit Go.Joins
open Pk (new_below join_below cell_at heap_new frozen_at lt_of kept heap_old)
open Tk (ws Wide RowZ ba_assoc ba_size)
open Num (decS Tens)
open Of (Offc Pl In ofV ofB)
set_option linter.unusedSimpArgs false
set_option linter.unusedVariables false

theorem undrewS {w w1 : World} (h : Below w.drew.heap.size w.drew w1) : Below w.heap.size w w1 := ((Below.refl _ _).drew).trans h

theorem linT_s (td : Int) : ⟨#[116, 111, 100, 97, 121, 32]⟩ ++ decS td ++ ⟨#[10]⟩ = linT td := by
  have e : ws [td] = ⟨#[32]⟩ ++ decS td := by
    show (⟨#[]⟩ : ByteArray) ++ (⟨#[32]⟩ ++ decS td) = _
    exact ByteArray.empty_append
  have e2 : (⟨#[116, 111, 100, 97, 121, 32]⟩ : ByteArray) = ⟨#[116, 111, 100, 97, 121]⟩ ++ ⟨#[32]⟩ := rfl
  unfold linT
  rw [e, e2, ba_assoc ⟨#[116, 111, 100, 97, 121]⟩ ⟨#[32]⟩ (decS td)]

set_option maxRecDepth 100000 in
set_option maxHeartbeats 4000000 in
theorem specText_val (x : Pl) (o : Offc) (w : World) (F : Fit o) (I : In w x o) :
    Calls Tryd.prog 5 #[ofV x o] w fun e w' => e = .returned (.string (otS o)) ∧ Below w.heap.size w w' := by
  have N0 := new_below w (ofB x o 37)
  have m0 := heap_new w (ofB x o 37)
  have e1 : (w.alloc (ofB x o 37)).heap.size = w.heap.size + 1 := Array.size_push ..
  have I0 := I.on N0
  have htd := F.td o.td (List.mem_singleton.2 rfl)
  have HD : Hid (∀ W : World, _) := fun W => Num.specDecText_any o.td W htd.1 htd.2
  have hT0 := linT_size o.td F.td
  have hds := Tk.decS_wide o.td htd.1 htd.2
  have hts := linT_s o.td
  generalize decS o.td = D at *
  obtain ⟨v0, w1, hr0, R0, L0⟩ := rw_of (w.alloc (ofB x o 37)) (⟨#[116, 111, 100, 97, 121, 32]⟩ ++ D ++ ⟨#[10]⟩) (by rw [hts]; unfold maxLen; omega)
  rw [hts, ← otO_0 o] at R0
  have z6 : (⟨#[116, 111, 100, 97, 121, 32]⟩ : ByteArray).size = 6 := rfl
  have b1 : ¬ 9223372036854775807 < 6 + D.size := by omega
  have b2 : ¬ 9223372036854775807 < 6 + D.size + 1 := by omega
  have HF : Hid (Fit o) := F
  have hlo := F.lo
  have hlh := F.lh
  have hlr := F.lr
  obtain ⟨X, hX⟩ : ∃ X, otS o = X := ⟨_, rfl⟩
  rw [hX]
  have HX : Hid (otS o = X) := hX
  have LB1 : Below (w.alloc (ofB x o 37)).heap.size (w.alloc (ofB x o 37)) w1 := L0
  have HM0 : Hid ((w.alloc (ofB x o 37)).heap[w.heap.size]? = some (ofB x o 37)) := m0
  have HN0 : Hid (Below w.heap.size w (w.alloc (ofB x o 37))) := N0
  have HE1 : Hid ((w.alloc (ofB x o 37)).heap.size = w.heap.size + 1) := e1
  have hPB : w.heap.size < (w.alloc (ofB x o 37)).heap.size := by rw [e1]; omega
  clear htd hts hT0 F hX e1 L0 I z6 hds
  go_enter Tryd.func5, Tryd.ntmps5
  go_wp2_with fail
  refine (HD.out _).mono ?_
  rintro e w2 ⟨rfl, rfl⟩
  go_wp2
  generalize w.alloc (ofB x o 37) = W0 at *
  clear hr0 HD b1 b2 m0 N0
  go_loopw [3, 4] (fun v i wr => ∃ k g cp : Nat, k ≤ o.od.length ∧ i = .int .i64 k ∧ v = .slice (some ⟨g, 0, none⟩) (otO o k).size cp ∧ g < wr.heap.size ∧ Rw W0.heap.size (.slice (some ⟨g, 0, none⟩) (otO o k).size cp) (otO o k) wr ∧ Below W0.heap.size W0 wr) (fun _ i _ => o.od.length - (intOf i).toNat)
  case atStart => obtain ⟨g, cp, e, hgl, R1⟩ := R0.form; exact ⟨0, g, cp, by omega, rfl, e, hgl, R1, LB1⟩
  case round =>
    clear R0 LB1
    obtain ⟨k, gv, cp, hk, rfl, rfl, hgl, RK, KK⟩ := hrel
    have n4 := kept KK (lt_of HM0.out) HM0.out
    have cF : wr.cell? ⟨w.heap.size, 3, none⟩ = some (.slice x.a3 o.od.length x.c3) := cell_at n4 3
    by_cases hkn : k < o.od.length
    · obtain ⟨b, u, ai, ci, ha, hlt, c0, c1, c2, c3, c4, c6, c7, c8, c5, J⟩ := (I0.od.on KK).at k hkn
      obtain ⟨hw, hnm⟩ := HF.out.od o.od[k] (List.getElem_mem hkn)
      have HS : Hid (otO o (k + 1) = otO o k ++ linO o.od[k]) := cat_step _ _ _ k hkn
      have hsz := otO_size o HF.out (k + 1) (by omega)
      rw [HS.out, ba_size] at hsz
      have HLO : Hid (linO o.od[k] = (⟨#[111, 114, 100, 101, 114]⟩ ++ ws (numO o.od[k].h)) ++ ⟨#[32]⟩ ++ o.od[k].h.nm ++ ⟨#[10]⟩) := rfl
      have hw7 := Tk.ws_wide_all _ hw
      have z2 : (numO o.od[k].h).length = 7 := rfl
      have HW : Hid (∀ (W : World) (g : Nat), RowZ W g [o.od[k].h.id, o.od[k].h.st, o.od[k].h.cl, o.od[k].h.ca, o.od[k].h.pr, o.od[k].h.pa, o.od[k].h.fi] → Calls Tryd.prog 15 #[.slice (some ⟨g, 0, none⟩) 7 7] W fun e w' => e = .returned (.string (ws (numO o.od[k].h))) ∧ w' = W) := fun W g R => Tk.words_wide (numO o.od[k].h) g 7 W (by show 7 ≤ 40; omega) hw R
      have N5 := new_below wr (Od.odB o.od[k].h ai o.od[k].l.length ci 50)
      have m5 := heap_new wr (Od.odB o.od[k].h ai o.od[k].l.length ci 50)
      have RK5 := RK.on N5
      have K5 := join_below KK N5
      rw [ha] at cF
      generalize otO o k = O at *
      generalize linO o.od[k] = Y at *
      generalize ws (numO o.od[k].h) = X1 at *
      generalize o.od[k].l.length = m at *
      generalize o.od[k].h = p at *
      rw [z2] at hw7
      clear hw RK KK J n4 z2
      obtain ⟨pid, pst, pnm, pcl, pca, ppr, ppa, pfi⟩ := p
      simp only at *
      go_wp2
      generalize wr.alloc (Od.odB ⟨pid, pst, pnm, pcl, pca, ppr, ppa, pfi⟩ ai m ci 50) = W1 at *
      have q0 : W1.cell? ⟨wr.heap.size, 0, none⟩ = some (.int .i64 pid) := cell_at m5 0
      have q1 : W1.cell? ⟨wr.heap.size, 1, none⟩ = some (.int .i64 pst) := cell_at m5 1
      have q2 : W1.cell? ⟨wr.heap.size, 2, none⟩ = some (.string pnm) := cell_at m5 2
      have q3 : W1.cell? ⟨wr.heap.size, 3, none⟩ = some (.int .i64 pcl) := cell_at m5 3
      have q4 : W1.cell? ⟨wr.heap.size, 4, none⟩ = some (.int .i64 pca) := cell_at m5 4
      have q6 : W1.cell? ⟨wr.heap.size, 6, none⟩ = some (.int .i64 ppr) := cell_at m5 6
      have q7 : W1.cell? ⟨wr.heap.size, 7, none⟩ = some (.int .i64 ppa) := cell_at m5 7
      have q8 : W1.cell? ⟨wr.heap.size, 8, none⟩ = some (.int .i64 pfi) := cell_at m5 8
      have RZ : RowZ (W1.alloc (.cells #[.int .i64 pid, .int .i64 pst, .int .i64 pcl, .int .i64 pca, .int .i64 ppr, .int .i64 ppa, .int .i64 pfi] 3)).drew W1.heap.size [pid, pst, pcl, pca, ppr, ppa, pfi] := RowZ.new W1 [pid, pst, pcl, pca, ppr, ppa, pfi] 3
      have N6 : Below W1.heap.size W1 (W1.alloc (.cells #[.int .i64 pid, .int .i64 pst, .int .i64 pcl, .int .i64 pca, .int .i64 ppr, .int .i64 ppa, .int .i64 pfi] 3)) := new_below W1 (.cells (([pid, pst, pcl, pca, ppr, ppa, pfi] : List Int).map (Value.int .i64)).toArray 3)
      have m6 := kept N6 (lt_of m5) m5
      have RK6 := RK5.on N6
      have K6 := join_below K5 N6
      have hlt1 := lt_of m5
      have b1 : ¬ 9223372036854775807 < 5 + X1.size := by omega
      have b2 : ¬ 9223372036854775807 < 5 + X1.size + 1 := by omega
      have b3 : ¬ 9223372036854775807 < 5 + X1.size + 1 + pnm.size := by omega
      have b4 : ¬ 9223372036854775807 < 5 + X1.size + 1 + pnm.size + 1 := by omega
      obtain ⟨v8, w8, hr8, R8, L8⟩ := rw_of (W1.alloc (.cells #[.int .i64 pid, .int .i64 pst, .int .i64 pcl, .int .i64 pca, .int .i64 ppr, .int .i64 ppa, .int .i64 pfi] 3)).drew (⟨#[111, 114, 100, 101, 114]⟩ ++ X1 ++ ⟨#[32]⟩ ++ pnm ++ ⟨#[10]⟩) (by rw [← HLO.out]; unfold maxLen; omega)
      have M8 := undrewS L8
      have RK8 := RK6.on M8
      have K8 := join_below K6 M8
      have m8 := kept M8 (lt_of m6) m6
      obtain ⟨v9, w9, hr9, R9, L9, K9⟩ := rw_append W0.heap.size _ v8 O _ w8 RK8 _ R8 K8.size (by rw [← HLO.out]; omega)
      have M9 := K8.trans L9
      have m9 : w9.heap[wr.heap.size]? = some (Od.odB ⟨pid, pst, pnm, pcl, pca, ppr, ppa, pfi⟩ ai m ci 50) := by rw [K9 wr.heap.size (lt_of m8) (by simp [Value.ownBlock]; omega)]; exact m8
      have d0 : (W1.alloc (.cells #[.int .i64 pid, .int .i64 pst, .int .i64 pcl, .int .i64 pca, .int .i64 ppr, .int .i64 ppa, .int .i64 pfi] 3)).drew.cell? ⟨wr.heap.size, 0, none⟩ = some (.int .i64 pid) := cell_at m6 0
      have d1 : (W1.alloc (.cells #[.int .i64 pid, .int .i64 pst, .int .i64 pcl, .int .i64 pca, .int .i64 ppr, .int .i64 ppa, .int .i64 pfi] 3)).drew.cell? ⟨wr.heap.size, 1, none⟩ = some (.int .i64 pst) := cell_at m6 1
      have d2 : (W1.alloc (.cells #[.int .i64 pid, .int .i64 pst, .int .i64 pcl, .int .i64 pca, .int .i64 ppr, .int .i64 ppa, .int .i64 pfi] 3)).drew.cell? ⟨wr.heap.size, 2, none⟩ = some (.string pnm) := cell_at m6 2
      have d3 : (W1.alloc (.cells #[.int .i64 pid, .int .i64 pst, .int .i64 pcl, .int .i64 pca, .int .i64 ppr, .int .i64 ppa, .int .i64 pfi] 3)).drew.cell? ⟨wr.heap.size, 3, none⟩ = some (.int .i64 pcl) := cell_at m6 3
      have d4 : (W1.alloc (.cells #[.int .i64 pid, .int .i64 pst, .int .i64 pcl, .int .i64 pca, .int .i64 ppr, .int .i64 ppa, .int .i64 pfi] 3)).drew.cell? ⟨wr.heap.size, 4, none⟩ = some (.int .i64 pca) := cell_at m6 4
      have d6 : (W1.alloc (.cells #[.int .i64 pid, .int .i64 pst, .int .i64 pcl, .int .i64 pca, .int .i64 ppr, .int .i64 ppa, .int .i64 pfi] 3)).drew.cell? ⟨wr.heap.size, 6, none⟩ = some (.int .i64 ppr) := cell_at m6 6
      have d7 : (W1.alloc (.cells #[.int .i64 pid, .int .i64 pst, .int .i64 pcl, .int .i64 pca, .int .i64 ppr, .int .i64 ppa, .int .i64 pfi] 3)).drew.cell? ⟨wr.heap.size, 7, none⟩ = some (.int .i64 ppa) := cell_at m6 7
      have d8 : (W1.alloc (.cells #[.int .i64 pid, .int .i64 pst, .int .i64 pcl, .int .i64 pca, .int .i64 ppr, .int .i64 ppa, .int .i64 pfi] 3)).drew.cell? ⟨wr.heap.size, 8, none⟩ = some (.int .i64 pfi) := cell_at m6 8
      have f0 : w8.cell? ⟨wr.heap.size, 0, none⟩ = some (.int .i64 pid) := cell_at m8 0
      have f1 : w8.cell? ⟨wr.heap.size, 1, none⟩ = some (.int .i64 pst) := cell_at m8 1
      have f2 : w8.cell? ⟨wr.heap.size, 2, none⟩ = some (.string pnm) := cell_at m8 2
      have f3 : w8.cell? ⟨wr.heap.size, 3, none⟩ = some (.int .i64 pcl) := cell_at m8 3
      have f4 : w8.cell? ⟨wr.heap.size, 4, none⟩ = some (.int .i64 pca) := cell_at m8 4
      have f6 : w8.cell? ⟨wr.heap.size, 6, none⟩ = some (.int .i64 ppr) := cell_at m8 6
      have f7 : w8.cell? ⟨wr.heap.size, 7, none⟩ = some (.int .i64 ppa) := cell_at m8 7
      have f8 : w8.cell? ⟨wr.heap.size, 8, none⟩ = some (.int .i64 pfi) := cell_at m8 8
      have h0 : w9.cell? ⟨wr.heap.size, 0, none⟩ = some (.int .i64 pid) := cell_at m9 0
      have h1 : w9.cell? ⟨wr.heap.size, 1, none⟩ = some (.int .i64 pst) := cell_at m9 1
      have h2 : w9.cell? ⟨wr.heap.size, 2, none⟩ = some (.string pnm) := cell_at m9 2
      have h3 : w9.cell? ⟨wr.heap.size, 3, none⟩ = some (.int .i64 pcl) := cell_at m9 3
      have h4 : w9.cell? ⟨wr.heap.size, 4, none⟩ = some (.int .i64 pca) := cell_at m9 4
      have h6 : w9.cell? ⟨wr.heap.size, 6, none⟩ = some (.int .i64 ppr) := cell_at m9 6
      have h7 : w9.cell? ⟨wr.heap.size, 7, none⟩ = some (.int .i64 ppa) := cell_at m9 7
      have h8 : w9.cell? ⟨wr.heap.size, 8, none⟩ = some (.int .i64 pfi) := cell_at m9 8
      clear N6 RK5 K5 hsz RK8 L8 M8 K8 R8 L9 RK6 K6 hw7 K9 m9 m8 m6
      refine wp_region_held_drew (S := (fun w' => w'.cell? ⟨wr.heap.size, 0, none⟩ = some (.int .i64 pid) ∧ w'.cell? ⟨wr.heap.size, 1, none⟩ = some (.int .i64 pst) ∧ w'.cell? ⟨wr.heap.size, 2, none⟩ = some (.string pnm) ∧ w'.cell? ⟨wr.heap.size, 3, none⟩ = some (.int .i64 pcl) ∧ w'.cell? ⟨wr.heap.size, 4, none⟩ = some (.int .i64 pca) ∧ w'.cell? ⟨wr.heap.size, 6, none⟩ = some (.int .i64 ppr) ∧ w'.cell? ⟨wr.heap.size, 7, none⟩ = some (.int .i64 ppa) ∧ w'.cell? ⟨wr.heap.size, 8, none⟩ = some (.int .i64 pfi))) (by kernel_rfl) ?_ (fun hHeld => ?_)
      · exact ⟨q0, q1, q2, q3, q4, q6, q7, q8⟩
      refine wpAnyH_take (i := 0) (v := .slice (some ⟨gv, 0, none⟩) O.size cp) rfl (by kernel_rfl) (by kernel_rfl) (by kernel_rfl) (fun _ _ _ h => h) (Or.inl ⟨by kernel_rfl, fun w hSw => by first | (go_simp; done) | (dsimp only at hSw; obtain ⟨hS0, hS1, hS2, hS3, hS4, hS5, hS6, hS7⟩ := hSw; go_simp; done) | rfl⟩) (by assumption) ?_
      simp only [Act.put, List.getElem_toArray, List.getElem_cons_succ, List.getElem_cons_zero, List.setIfInBounds_toArray, List.set_cons_succ, List.set_cons_zero]
      refine wpAnyH_take (i := 1) (v := .pointer (some ⟨wr.heap.size, 0, none⟩)) rfl (by kernel_rfl) (by kernel_rfl) (by kernel_rfl) (fun _ _ _ h => h) (Or.inl ⟨by kernel_rfl, fun w hSw => by first | (go_simp; done) | (dsimp only at hSw; obtain ⟨hS0, hS1, hS2, hS3, hS4, hS5, hS6, hS7⟩ := hSw; go_simp; done) | rfl⟩) (by assumption) ?_
      simp only [Act.put, List.getElem_toArray, List.getElem_cons_succ, List.getElem_cons_zero, List.setIfInBounds_toArray, List.set_cons_succ, List.set_cons_zero]
      refine wpAnyH_take (i := 2) (v := .int .i64 pid) rfl (by kernel_rfl) (by kernel_rfl) (by kernel_rfl) (fun _ _ _ h => h) (Or.inl ⟨by kernel_rfl, fun w hSw => by first | (go_simp; done) | (dsimp only at hSw; obtain ⟨hS0, hS1, hS2, hS3, hS4, hS5, hS6, hS7⟩ := hSw; go_simp; done) | rfl⟩) (by assumption) ?_
      simp only [Act.put, List.getElem_toArray, List.getElem_cons_succ, List.getElem_cons_zero, List.setIfInBounds_toArray, List.set_cons_succ, List.set_cons_zero]
      refine wpAnyH_take (i := 3) (v := .pointer (some ⟨wr.heap.size, 1, none⟩)) rfl (by kernel_rfl) (by kernel_rfl) (by kernel_rfl) (fun _ _ _ h => h) (Or.inl ⟨by kernel_rfl, fun w hSw => by first | (go_simp; done) | (dsimp only at hSw; obtain ⟨hS0, hS1, hS2, hS3, hS4, hS5, hS6, hS7⟩ := hSw; go_simp; done) | rfl⟩) (by assumption) ?_
      simp only [Act.put, List.getElem_toArray, List.getElem_cons_succ, List.getElem_cons_zero, List.setIfInBounds_toArray, List.set_cons_succ, List.set_cons_zero]
      refine wpAnyH_take (i := 4) (v := .int .i64 pst) rfl (by kernel_rfl) (by kernel_rfl) (by kernel_rfl) (fun _ _ _ h => h) (Or.inl ⟨by kernel_rfl, fun w hSw => by first | (go_simp; done) | (dsimp only at hSw; obtain ⟨hS0, hS1, hS2, hS3, hS4, hS5, hS6, hS7⟩ := hSw; go_simp; done) | rfl⟩) (by assumption) ?_
      simp only [Act.put, List.getElem_toArray, List.getElem_cons_succ, List.getElem_cons_zero, List.setIfInBounds_toArray, List.set_cons_succ, List.set_cons_zero]
      refine wpAnyH_take (i := 5) (v := .pointer (some ⟨wr.heap.size, 3, none⟩)) rfl (by kernel_rfl) (by kernel_rfl) (by kernel_rfl) (fun _ _ _ h => h) (Or.inl ⟨by kernel_rfl, fun w hSw => by first | (go_simp; done) | (dsimp only at hSw; obtain ⟨hS0, hS1, hS2, hS3, hS4, hS5, hS6, hS7⟩ := hSw; go_simp; done) | rfl⟩) (by assumption) ?_
      simp only [Act.put, List.getElem_toArray, List.getElem_cons_succ, List.getElem_cons_zero, List.setIfInBounds_toArray, List.set_cons_succ, List.set_cons_zero]
      refine wpAnyH_take (i := 6) (v := .int .i64 pcl) rfl (by kernel_rfl) (by kernel_rfl) (by kernel_rfl) (fun _ _ _ h => h) (Or.inl ⟨by kernel_rfl, fun w hSw => by first | (go_simp; done) | (dsimp only at hSw; obtain ⟨hS0, hS1, hS2, hS3, hS4, hS5, hS6, hS7⟩ := hSw; go_simp; done) | rfl⟩) (by assumption) ?_
      simp only [Act.put, List.getElem_toArray, List.getElem_cons_succ, List.getElem_cons_zero, List.setIfInBounds_toArray, List.set_cons_succ, List.set_cons_zero]
      refine wpAnyH_take (i := 7) (v := .pointer (some ⟨wr.heap.size, 4, none⟩)) rfl (by kernel_rfl) (by kernel_rfl) (by kernel_rfl) (fun _ _ _ h => h) (Or.inl ⟨by kernel_rfl, fun w hSw => by first | (go_simp; done) | (dsimp only at hSw; obtain ⟨hS0, hS1, hS2, hS3, hS4, hS5, hS6, hS7⟩ := hSw; go_simp; done) | rfl⟩) (by assumption) ?_
      simp only [Act.put, List.getElem_toArray, List.getElem_cons_succ, List.getElem_cons_zero, List.setIfInBounds_toArray, List.set_cons_succ, List.set_cons_zero]
      refine wpAnyH_take (i := 8) (v := .int .i64 pca) rfl (by kernel_rfl) (by kernel_rfl) (by kernel_rfl) (fun _ _ _ h => h) (Or.inl ⟨by kernel_rfl, fun w hSw => by first | (go_simp; done) | (dsimp only at hSw; obtain ⟨hS0, hS1, hS2, hS3, hS4, hS5, hS6, hS7⟩ := hSw; go_simp; done) | rfl⟩) (by assumption) ?_
      simp only [Act.put, List.getElem_toArray, List.getElem_cons_succ, List.getElem_cons_zero, List.setIfInBounds_toArray, List.set_cons_succ, List.set_cons_zero]
      refine wpAnyH_take (i := 9) (v := .pointer (some ⟨wr.heap.size, 6, none⟩)) rfl (by kernel_rfl) (by kernel_rfl) (by kernel_rfl) (fun _ _ _ h => h) (Or.inl ⟨by kernel_rfl, fun w hSw => by first | (go_simp; done) | (dsimp only at hSw; obtain ⟨hS0, hS1, hS2, hS3, hS4, hS5, hS6, hS7⟩ := hSw; go_simp; done) | rfl⟩) (by assumption) ?_
      simp only [Act.put, List.getElem_toArray, List.getElem_cons_succ, List.getElem_cons_zero, List.setIfInBounds_toArray, List.set_cons_succ, List.set_cons_zero]
      refine wpAnyH_take (i := 10) (v := .int .i64 ppr) rfl (by kernel_rfl) (by kernel_rfl) (by kernel_rfl) (fun _ _ _ h => h) (Or.inl ⟨by kernel_rfl, fun w hSw => by first | (go_simp; done) | (dsimp only at hSw; obtain ⟨hS0, hS1, hS2, hS3, hS4, hS5, hS6, hS7⟩ := hSw; go_simp; done) | rfl⟩) (by assumption) ?_
      simp only [Act.put, List.getElem_toArray, List.getElem_cons_succ, List.getElem_cons_zero, List.setIfInBounds_toArray, List.set_cons_succ, List.set_cons_zero]
      refine wpAnyH_take (i := 11) (v := .pointer (some ⟨wr.heap.size, 7, none⟩)) rfl (by kernel_rfl) (by kernel_rfl) (by kernel_rfl) (fun _ _ _ h => h) (Or.inl ⟨by kernel_rfl, fun w hSw => by first | (go_simp; done) | (dsimp only at hSw; obtain ⟨hS0, hS1, hS2, hS3, hS4, hS5, hS6, hS7⟩ := hSw; go_simp; done) | rfl⟩) (by assumption) ?_
      simp only [Act.put, List.getElem_toArray, List.getElem_cons_succ, List.getElem_cons_zero, List.setIfInBounds_toArray, List.set_cons_succ, List.set_cons_zero]
      refine wpAnyH_take (i := 12) (v := .int .i64 ppa) rfl (by kernel_rfl) (by kernel_rfl) (by kernel_rfl) (fun _ _ _ h => h) (Or.inl ⟨by kernel_rfl, fun w hSw => by first | (go_simp; done) | (dsimp only at hSw; obtain ⟨hS0, hS1, hS2, hS3, hS4, hS5, hS6, hS7⟩ := hSw; go_simp; done) | rfl⟩) (by assumption) ?_
      simp only [Act.put, List.getElem_toArray, List.getElem_cons_succ, List.getElem_cons_zero, List.setIfInBounds_toArray, List.set_cons_succ, List.set_cons_zero]
      refine wpAnyH_take (i := 13) (v := .pointer (some ⟨wr.heap.size, 8, none⟩)) rfl (by kernel_rfl) (by kernel_rfl) (by kernel_rfl) (fun _ _ _ h => h) (Or.inl ⟨by kernel_rfl, fun w hSw => by first | (go_simp; done) | (dsimp only at hSw; obtain ⟨hS0, hS1, hS2, hS3, hS4, hS5, hS6, hS7⟩ := hSw; go_simp; done) | rfl⟩) (by assumption) ?_
      simp only [Act.put, List.getElem_toArray, List.getElem_cons_succ, List.getElem_cons_zero, List.setIfInBounds_toArray, List.set_cons_succ, List.set_cons_zero]
      refine wpAnyH_take (i := 14) (v := .int .i64 pfi) rfl (by kernel_rfl) (by kernel_rfl) (by kernel_rfl) (fun _ _ _ h => h) (Or.inl ⟨by kernel_rfl, fun w hSw => by first | (go_simp; done) | (dsimp only at hSw; obtain ⟨hS0, hS1, hS2, hS3, hS4, hS5, hS6, hS7⟩ := hSw; go_simp; done) | rfl⟩) (by assumption) ?_
      simp only [Act.put, List.getElem_toArray, List.getElem_cons_succ, List.getElem_cons_zero, List.setIfInBounds_toArray, List.set_cons_succ, List.set_cons_zero]
      refine wpAnyH_take (i := 19) (v := .pointer (some ⟨wr.heap.size, 2, none⟩)) rfl (by kernel_rfl) (by kernel_rfl) (by kernel_rfl) (fun _ _ _ h => h) (Or.inl ⟨by kernel_rfl, fun w hSw => by first | (go_simp; done) | (dsimp only at hSw; obtain ⟨hS0, hS1, hS2, hS3, hS4, hS5, hS6, hS7⟩ := hSw; go_simp; done) | rfl⟩) (by assumption) ?_
      simp only [Act.put, List.getElem_toArray, List.getElem_cons_succ, List.getElem_cons_zero, List.setIfInBounds_toArray, List.set_cons_succ, List.set_cons_zero]
      refine wpAnyH_take (i := 20) (v := .string pnm) rfl (by kernel_rfl) (by kernel_rfl) (by kernel_rfl) (fun _ _ _ h => h) (Or.inl ⟨by kernel_rfl, fun w hSw => by first | (go_simp; done) | (dsimp only at hSw; obtain ⟨hS0, hS1, hS2, hS3, hS4, hS5, hS6, hS7⟩ := hSw; go_simp; done) | rfl⟩) (by assumption) ?_
      simp only [Act.put, List.getElem_toArray, List.getElem_cons_succ, List.getElem_cons_zero, List.setIfInBounds_toArray, List.set_cons_succ, List.set_cons_zero]
      refine wpAnyH_ready (rs := [15]) (by kernel_rfl) (by simp) ?_
      refine AllReadyH.cons rfl (fun K hK => ?_) AllReadyH.nil
      go_simp
      refine hK.out _ _ ?_ (fun hHeld2 => ?_)
      · (first | (with_reducible exact ⟨d0, d1, d2, d3, d4, d6, d7, d8⟩) | (with_reducible exact ⟨f0, f1, f2, f3, f4, f6, f7, f8⟩) | (with_reducible exact ⟨h0, h1, h2, h3, h4, h6, h7, h8⟩))
      clear hK K hHeld
      have hHeld := hHeld2
      clear hHeld2
      refine wpAnyH_ready (rs := [16]) (by kernel_rfl) (by simp) ?_
      refine AllReadyH.cons rfl (fun K hK => ?_) AllReadyH.nil
      go_simp
      go_wp2_with (go_at_call 15; (with_reducible refine (HW.out _ _ RZ).mono ?_); rintro e w7 ⟨rfl, hw7⟩; have hw7q := hw7.symm; subst hw7q; clear hw7)
      refine hK.out _ _ ?_ (fun hHeld2 => ?_)
      · (first | (with_reducible exact ⟨d0, d1, d2, d3, d4, d6, d7, d8⟩) | (with_reducible exact ⟨f0, f1, f2, f3, f4, f6, f7, f8⟩) | (with_reducible exact ⟨h0, h1, h2, h3, h4, h6, h7, h8⟩))
      clear hK K hHeld
      have hHeld := hHeld2
      clear hHeld2
      refine wpAnyH_take (i := 17) (v := .string (⟨#[111, 114, 100, 101, 114]⟩ ++ X1)) rfl (by kernel_rfl) (by kernel_rfl) (by kernel_rfl) (fun _ _ _ h => h) (Or.inl ⟨by kernel_rfl, fun w hSw => by first | (go_simp; done) | (dsimp only at hSw; obtain ⟨hS0, hS1, hS2, hS3, hS4, hS5, hS6, hS7⟩ := hSw; go_simp; done) | rfl⟩) (by assumption) ?_
      simp only [Act.put, List.getElem_toArray, List.getElem_cons_succ, List.getElem_cons_zero, List.setIfInBounds_toArray, List.set_cons_succ, List.set_cons_zero]
      refine wpAnyH_take (i := 18) (v := .string (⟨#[111, 114, 100, 101, 114]⟩ ++ X1 ++ ⟨#[32]⟩)) rfl (by kernel_rfl) (by kernel_rfl) (by kernel_rfl) (fun _ _ _ h => h) (Or.inl ⟨by kernel_rfl, fun w hSw => by first | (go_simp; done) | (dsimp only at hSw; obtain ⟨hS0, hS1, hS2, hS3, hS4, hS5, hS6, hS7⟩ := hSw; go_simp; done) | rfl⟩) (by assumption) ?_
      simp only [Act.put, List.getElem_toArray, List.getElem_cons_succ, List.getElem_cons_zero, List.setIfInBounds_toArray, List.set_cons_succ, List.set_cons_zero]
      refine wpAnyH_take (i := 21) (v := .string (⟨#[111, 114, 100, 101, 114]⟩ ++ X1 ++ ⟨#[32]⟩ ++ pnm)) rfl (by kernel_rfl) (by kernel_rfl) (by kernel_rfl) (fun _ _ _ h => h) (Or.inl ⟨by kernel_rfl, fun w hSw => by first | (go_simp; done) | (dsimp only at hSw; obtain ⟨hS0, hS1, hS2, hS3, hS4, hS5, hS6, hS7⟩ := hSw; go_simp; done) | rfl⟩) (by assumption) ?_
      simp only [Act.put, List.getElem_toArray, List.getElem_cons_succ, List.getElem_cons_zero, List.setIfInBounds_toArray, List.set_cons_succ, List.set_cons_zero]
      refine wpAnyH_take (i := 22) (v := .string (⟨#[111, 114, 100, 101, 114]⟩ ++ X1 ++ ⟨#[32]⟩ ++ pnm ++ ⟨#[10]⟩)) rfl (by kernel_rfl) (by kernel_rfl) (by kernel_rfl) (fun _ _ _ h => h) (Or.inl ⟨by kernel_rfl, fun w hSw => by first | (go_simp; done) | (dsimp only at hSw; obtain ⟨hS0, hS1, hS2, hS3, hS4, hS5, hS6, hS7⟩ := hSw; go_simp; done) | rfl⟩) (by assumption) ?_
      simp only [Act.put, List.getElem_toArray, List.getElem_cons_succ, List.getElem_cons_zero, List.setIfInBounds_toArray, List.set_cons_succ, List.set_cons_zero]
      refine wpAnyH_ready (rs := [23]) (by kernel_rfl) (by simp) ?_
      refine AllReadyH.cons rfl (fun K hK => ?_) AllReadyH.nil
      go_simp
      refine hK.out _ _ ?_ (fun hHeld2 => ?_)
      · (first | (with_reducible exact ⟨d0, d1, d2, d3, d4, d6, d7, d8⟩) | (with_reducible exact ⟨f0, f1, f2, f3, f4, f6, f7, f8⟩) | (with_reducible exact ⟨h0, h1, h2, h3, h4, h6, h7, h8⟩))
      clear hK K hHeld
      have hHeld := hHeld2
      clear hHeld2
      refine wpAnyH_ready (rs := [24]) (by kernel_rfl) (by simp) ?_
      refine AllReadyH.cons rfl (fun K hK => ?_) AllReadyH.nil
      rw [if_pos (by kernel_rfl)]
      refine wp_rw_append _ _ _ _ rfl rfl rfl rfl hr9 ?_
      try simp only [Act.put, List.getElem_toArray, List.getElem_cons_succ, List.getElem_cons_zero, List.setIfInBounds_toArray, List.set_cons_succ, List.set_cons_zero]
      refine hK.out _ _ ?_ (fun hHeld2 => ?_)
      · (first | (with_reducible exact ⟨d0, d1, d2, d3, d4, d6, d7, d8⟩) | (with_reducible exact ⟨f0, f1, f2, f3, f4, f6, f7, f8⟩) | (with_reducible exact ⟨h0, h1, h2, h3, h4, h6, h7, h8⟩))
      clear hK K hHeld
      have hHeld := hHeld2
      clear hHeld2
      refine wpAnyH_ready (rs := [25]) (by kernel_rfl) (by simp) ?_
      refine AllReadyH.cons rfl (fun K hK => ?_) AllReadyH.nil
      go_simp
      refine hK.out _ _ ?_ (fun hHeld2 => ?_)
      · (first | (with_reducible exact ⟨d0, d1, d2, d3, d4, d6, d7, d8⟩) | (with_reducible exact ⟨f0, f1, f2, f3, f4, f6, f7, f8⟩) | (with_reducible exact ⟨h0, h1, h2, h3, h4, h6, h7, h8⟩))
      clear hK K hHeld
      have hHeld := hHeld2
      clear hHeld2
      refine wpAnyH_done (by kernel_rfl) ?_ _
      go_wp2
      go_roundw
      case rel =>
        obtain ⟨g9, c9, e9, l9, R10⟩ := R9.form
        rw [← HLO.out, ← HS.out] at R10 e9
        exact ⟨k + 1, g9, c9, by omega, by go_num, e9, l9, R10, M9⟩
      case measure => simp [intOf]; omega
    · obtain rfl : k = o.od.length := by omega
      rw [← otH_0] at RK
      clear n4 hkn hk
      go_wp2
      clear cF
      generalize wr = w9 at *
      go_loopw [3, 6] (fun v i wr => ∃ k g cp : Nat, k ≤ o.ho.length ∧ i = .int .i64 k ∧ v = .slice (some ⟨g, 0, none⟩) (otH o k).size cp ∧ g < wr.heap.size ∧ Rw W0.heap.size (.slice (some ⟨g, 0, none⟩) (otH o k).size cp) (otH o k) wr ∧ Below W0.heap.size W0 wr) (fun _ i _ => o.ho.length - (intOf i).toNat)
      case atStart => exact ⟨0, gv, cp, by omega, rfl, by rw [otH_0], hgl, RK, KK⟩
      case round =>
        clear RK KK hgl
        obtain ⟨k, gv, cp, hk, rfl, rfl, hgl, RK, KK⟩ := hrel
        have n4 := kept KK (lt_of HM0.out) HM0.out
        have cF : wr.cell? ⟨w.heap.size, 2, none⟩ = some (.slice x.a2 o.ho.length x.c2) := cell_at n4 2
        by_cases hkn : k < o.ho.length
        · obtain ⟨b, u, ha, hlt, hc0, hc1, hc2, hc3, hc4, hc5, hc6⟩ := (I0.ho.on KK).at k hkn
          have hw := HF.out.ho o.ho[k] (List.getElem_mem hkn)
          have HS : Hid (otH o (k + 1) = otH o k ++ linH o.ho[k]) := cat_step _ _ _ k hkn
          have hsz := otH_size o HF.out (k + 1) (by omega)
          rw [HS.out, ba_size] at hsz
          have HLO : Hid (linH o.ho[k] = ⟨#[104, 111, 108, 100]⟩ ++ ws (numH o.ho[k]) ++ ⟨#[10]⟩) := rfl
          have hw7 := Tk.ws_wide_all _ hw
          have z2 : (numH o.ho[k]).length = 7 := rfl
          have HW : Hid (∀ (W : World) (g : Nat), RowZ W g [o.ho[k].tr, o.ho[k].dy, o.ho[k].co, o.ho[k].se, o.ho[k].ba, o.ho[k].be, o.ho[k].od] → Calls Tryd.prog 15 #[.slice (some ⟨g, 0, none⟩) 7 7] W fun e w' => e = .returned (.string (ws (numH o.ho[k]))) ∧ w' = W) := fun W g R => Tk.words_wide (numH o.ho[k]) g 7 W (by show 7 ≤ 40; omega) hw R
          rw [ha] at cF
          generalize otH o k = O at *
          generalize linH o.ho[k] = Y at *
          generalize ws (numH o.ho[k]) = X1 at *
          rw [z2] at hw7
          clear z2 hw
          generalize o.ho[k] = p at *
          obtain ⟨p0, p1, p2, p3, p4, p5, p6⟩ := p
          simp only at *
          have RZ := RowZ.new (wr.alloc (.cells #[.int .i64 p0, .int .i64 p1, .int .i64 p2, .int .i64 p3, .int .i64 p4, .int .i64 p5, .int .i64 p6] 54)) [p0, p1, p2, p3, p4, p5, p6] 3
          have eS : (wr.alloc (.cells #[.int .i64 p0, .int .i64 p1, .int .i64 p2, .int .i64 p3, .int .i64 p4, .int .i64 p5, .int .i64 p6] 54)).heap.size = wr.heap.size + 1 := Array.size_push ..
          rw [eS] at RZ
          have NN := join_below (new_below wr (.cells #[.int .i64 p0, .int .i64 p1, .int .i64 p2, .int .i64 p3, .int .i64 p4, .int .i64 p5, .int .i64 p6] 54)) (new_below (wr.alloc (.cells #[.int .i64 p0, .int .i64 p1, .int .i64 p2, .int .i64 p3, .int .i64 p4, .int .i64 p5, .int .i64 p6] 54)) (.cells #[.int .i64 p0, .int .i64 p1, .int .i64 p2, .int .i64 p3, .int .i64 p4, .int .i64 p5, .int .i64 p6] 3))
          have RK5 := RK.on NN
          have K5 := join_below KK NN
          have b1 : ¬ 9223372036854775807 < 4 + X1.size := by omega
          have b2 : ¬ 9223372036854775807 < 4 + X1.size + 1 := by omega
          obtain ⟨v8, w8, hr8, R8, L8⟩ := rw_of ((wr.alloc (.cells #[.int .i64 p0, .int .i64 p1, .int .i64 p2, .int .i64 p3, .int .i64 p4, .int .i64 p5, .int .i64 p6] 54)).alloc (.cells #[.int .i64 p0, .int .i64 p1, .int .i64 p2, .int .i64 p3, .int .i64 p4, .int .i64 p5, .int .i64 p6] 3)) (⟨#[104, 111, 108, 100]⟩ ++ X1 ++ ⟨#[10]⟩) (by rw [← HLO.out]; unfold maxLen; omega)
          have RK8 := RK5.on L8
          have K8 := join_below K5 L8
          obtain ⟨v9, w9, hr9, R9, L9, -⟩ := rw_append W0.heap.size _ v8 O _ w8 RK8 _ R8 K8.size (by rw [← HLO.out]; omega)
          have M9 := K8.trans L9
          clear NN eS KK RK RK5 K5 RK8 K8 R8 L8 L9 n4 hsz hw7
          go_wp2_with fail
          refine (HW.out _ _ RZ).mono ?_
          rintro e w7 ⟨rfl, hw7⟩
          have hw7q := hw7.symm
          clear hw7
          subst hw7q
          clear RZ HW
          go_wp2_with (at_builtin; refine wpList_rw_append rfl _ _ _ _ rfl rfl rfl rfl hr9 ?_)
          go_wp2
          go_roundw
          case rel =>
            obtain ⟨g9, c9, e9, l9, R10⟩ := R9.form
            rw [← HLO.out, ← HS.out] at R10 e9
            exact ⟨k + 1, g9, c9, by omega, by go_num, e9, l9, R10, M9⟩
          case measure => simp [intOf]; omega
        · obtain rfl : k = o.ho.length := by omega
          rw [← otR_0] at RK
          clear n4 hkn hk
          go_wp2
          clear cF
          generalize wr = w10 at *
          go_loopw [3, 8] (fun v i wr => ∃ k g cp : Nat, k ≤ o.to.length ∧ i = .int .i64 k ∧ v = .slice (some ⟨g, 0, none⟩) (otR o k).size cp ∧ g < wr.heap.size ∧ Rw W0.heap.size (.slice (some ⟨g, 0, none⟩) (otR o k).size cp) (otR o k) wr ∧ Below W0.heap.size W0 wr) (fun _ i _ => o.to.length - (intOf i).toNat)
          case atStart => exact ⟨0, gv, cp, by omega, rfl, by rw [otR_0], hgl, RK, KK⟩
          case round =>
            clear RK KK hgl
            obtain ⟨k, gv, cp, hk, rfl, rfl, hgl, RK, KK⟩ := hrel
            have n4 := kept KK (lt_of HM0.out) HM0.out
            have cF : wr.cell? ⟨w.heap.size, 4, none⟩ = some (.slice x.a4 o.to.length x.c4) := cell_at n4 4
            by_cases hkn : k < o.to.length
            · obtain ⟨b, u, ha, hlt, hc0, hc1, hc2, hc3⟩ := (I0.to.on KK).at k hkn
              have hw := HF.out.to o.to[k] (List.getElem_mem hkn)
              have HS : Hid (otR o (k + 1) = otR o k ++ linR o.to[k]) := cat_step _ _ _ k hkn
              have hsz := otR_size o HF.out (k + 1) (by omega)
              rw [HS.out, ba_size] at hsz
              have HLO : Hid (linR o.to[k] = ⟨#[116, 111, 108, 100]⟩ ++ ws (numR o.to[k]) ++ ⟨#[10]⟩) := rfl
              have hw7 := Tk.ws_wide_all _ hw
              have z2 : (numR o.to[k]).length = 4 := rfl
              have HW : Hid (∀ (W : World) (g : Nat), RowZ W g [o.to[k].rq, o.to[k].sa, o.to[k].od, o.to[k].am] → Calls Tryd.prog 15 #[.slice (some ⟨g, 0, none⟩) 4 4] W fun e w' => e = .returned (.string (ws (numR o.to[k]))) ∧ w' = W) := fun W g R => Tk.words_wide (numR o.to[k]) g 4 W (by show 4 ≤ 40; omega) hw R
              rw [ha] at cF
              generalize otR o k = O at *
              generalize linR o.to[k] = Y at *
              generalize ws (numR o.to[k]) = X1 at *
              rw [z2] at hw7
              clear z2 hw
              generalize o.to[k] = p at *
              obtain ⟨p0, p1, p2, p3⟩ := p
              simp only at *
              have RZ := RowZ.new (wr.alloc (.cells #[.int .i64 p0, .int .i64 p1, .int .i64 p2, .int .i64 p3] 56)) [p0, p1, p2, p3] 3
              have eS : (wr.alloc (.cells #[.int .i64 p0, .int .i64 p1, .int .i64 p2, .int .i64 p3] 56)).heap.size = wr.heap.size + 1 := Array.size_push ..
              rw [eS] at RZ
              have NN := join_below (new_below wr (.cells #[.int .i64 p0, .int .i64 p1, .int .i64 p2, .int .i64 p3] 56)) (new_below (wr.alloc (.cells #[.int .i64 p0, .int .i64 p1, .int .i64 p2, .int .i64 p3] 56)) (.cells #[.int .i64 p0, .int .i64 p1, .int .i64 p2, .int .i64 p3] 3))
              have RK5 := RK.on NN
              have K5 := join_below KK NN
              have b1 : ¬ 9223372036854775807 < 4 + X1.size := by omega
              have b2 : ¬ 9223372036854775807 < 4 + X1.size + 1 := by omega
              obtain ⟨v8, w8, hr8, R8, L8⟩ := rw_of ((wr.alloc (.cells #[.int .i64 p0, .int .i64 p1, .int .i64 p2, .int .i64 p3] 56)).alloc (.cells #[.int .i64 p0, .int .i64 p1, .int .i64 p2, .int .i64 p3] 3)) (⟨#[116, 111, 108, 100]⟩ ++ X1 ++ ⟨#[10]⟩) (by rw [← HLO.out]; unfold maxLen; omega)
              have RK8 := RK5.on L8
              have K8 := join_below K5 L8
              obtain ⟨v9, w9, hr9, R9, L9, -⟩ := rw_append W0.heap.size _ v8 O _ w8 RK8 _ R8 K8.size (by rw [← HLO.out]; omega)
              have M9 := K8.trans L9
              clear NN eS KK RK RK5 K5 RK8 K8 R8 L8 L9 n4 hsz hw7
              go_wp2_with fail
              refine (HW.out _ _ RZ).mono ?_
              rintro e w7 ⟨rfl, hw7⟩
              have hw7q := hw7.symm
              clear hw7
              subst hw7q
              clear RZ HW
              go_wp2_with (at_builtin; refine wpList_rw_append rfl _ _ _ _ rfl rfl rfl rfl hr9 ?_)
              go_wp2
              go_roundw
              case rel =>
                obtain ⟨g9, c9, e9, l9, R10⟩ := R9.form
                rw [← HLO.out, ← HS.out] at R10 e9
                exact ⟨k + 1, g9, c9, by omega, by go_num, e9, l9, R10, M9⟩
              case measure => simp [intOf]; omega
            · obtain rfl : k = o.to.length := by omega
              have hbk := rw_back RK
              have eX : otR o o.to.length = X := HX.out
              have LF := HN0.out.trans (KK.mono (Nat.le_of_lt hPB))
              rw [eX] at hbk
              have HEX : Hid (otR o o.to.length = X) := eX
              clear n4 hkn hk RK KK eX
              rw [HEX.out]
              go_wp2
              go_ret
              exact ⟨rfl, LF⟩

end Ot
end Go.Proofs.YtbmcnkfhiiicjaaDoor

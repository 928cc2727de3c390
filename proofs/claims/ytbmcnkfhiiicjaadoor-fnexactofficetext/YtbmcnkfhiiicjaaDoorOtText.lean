/- The contract of the program's OfficeText. -/
import Derived.Test.YtbmcnkfhiiicjaaDoorOtMath
namespace Go.Proofs.YtbmcnkfhiiicjaaDoor
namespace Ot
open Go.ChangeShapes Go.WideShapes Go.ChangeAt Go.RowKit Go.Joins
open Pk (new_below join_below cell_at heap_new frozen_at lt_of kept heap_old)
open Tk (ws Wide RowZ ba_assoc ba_size)
open Num (decS Tens)
open Of (Offc Pl In ofV ofB)
set_option linter.unusedSimpArgs false
set_option linter.unusedVariables false

theorem undrew {w w1 : World} (h : Below w.drew.heap.size w.drew w1) : Below w.heap.size w w1 := ((Below.refl _ _).drew).trans h

set_option maxRecDepth 100000 in
set_option maxHeartbeats 4000000 in
theorem implText_val (x : Pl) (o : Offc) (w : World) (F : Fit o) (I : In w x o) (T : Tens w) :
    Calls Tryd.prog 7 #[ofV x o] w fun e w' => e = .returned (.string (otS o)) ∧ Below w.heap.size w w' := by
  have N0 := new_below w (ofB x o 37)
  have m0 := heap_new w (ofB x o 37)
  have e1 : (w.alloc (ofB x o 37)).heap.size = w.heap.size + 1 := Array.size_push ..
  have I0 := I.on N0
  have BW := Bw.new (w.alloc (ofB x o 37))
  have N1 := new_below (w.alloc (ofB x o 37)) (.cells #[.pointer none, .slice none 0 0] 64)
  have e2 : ((w.alloc (ofB x o 37)).alloc (.cells #[.pointer none, .slice none 0 0] 64)).heap.size = w.heap.size + 1 + 1 := by rw [← e1]; exact Array.size_push ..
  have RZ := RowZ.new ((w.alloc (ofB x o 37)).alloc (.cells #[.pointer none, .slice none 0 0] 64)) [o.td] 3
  have N2 := new_below ((w.alloc (ofB x o 37)).alloc (.cells #[.pointer none, .slice none 0 0] 64)) (.cells (([o.td] : List Int).map (Value.int .i64)).toArray 3)
  have LB := join_below N1 N2
  have T2 := T.on (join_below N0 LB)
  have BW2 := BW.on N2
  rw [e2] at RZ
  have HL : Hid (∀ (W : World) (g : Nat), RowZ W g [o.td] → Tens W → Calls Tryd.prog 22 #[.string ⟨#[116, 111, 100, 97, 121]⟩, .slice (some ⟨g, 0, none⟩) 1 1] W fun e w' => e = .returned (.string (linT o.td)) ∧ Below W.heap.size W w') := fun W g R T => Tk.lineW_val ⟨#[116, 111, 100, 97, 121]⟩ [o.td] g 1 W (by decide) (by simp) F.td R T
  have hT0 := linT_size o.td F.td
  have HF : Hid (Fit o) := F
  have hlo := F.lo
  have hlh := F.lh
  have hlr := F.lr
  obtain ⟨X, hX⟩ : ∃ X, otS o = X := ⟨_, rfl⟩
  rw [hX]
  have HX : Hid (otS o = X) := hX
  clear N1 N2 BW F hX
  go_enter Tryd.func7, Tryd.ntmps7
  go_wp2_with fail
  refine (HL.out _ _ RZ T2).mono ?_
  rintro e w3 ⟨rfl, L3⟩
  have BW3 := BW2.on L3
  have LB3 := join_below LB L3
  have TW := T.on (join_below N0 LB3)
  rw [e1] at BW3 LB3
  have e0 : (⟨#[]⟩ : ByteArray) ++ linT o.td = otO o 0 := ByteArray.empty_append
  have HWR : Hid (∀ _ : Unit, _) := fun _ => write_val (w.heap.size + 1) (w.heap.size + 1) _ ⟨#[]⟩ (linT o.td) w3 BW3 (by show 0 + (linT o.td).size ≤ _; omega) (by have := LB3.size; rw [e1] at this; exact this)
  rw [e0] at HWR
  clear RZ T2 LB L3 BW2 HL e2 e0 BW3 TW
  go_wp2_with fail
  refine (HWR.out ()).mono ?_
  rintro e w4 ⟨rfl, ⟨v4, BW4⟩, L4, -⟩
  have LB4 := LB3.trans L4
  clear HWR LB3 L4 hT0
  have I4 := I0
  have HM0 : Hid ((w.alloc (ofB x o 37)).heap[w.heap.size]? = some (ofB x o 37)) := m0
  have HN0 : Hid (Below w.heap.size w (w.alloc (ofB x o 37))) := N0
  have HE1 : Hid ((w.alloc (ofB x o 37)).heap.size = w.heap.size + 1) := e1
  have HT : Hid (Tens w) := T
  have HB : Hid (w.heap.size + 1 = w.heap.size + 1) := rfl
  generalize w.alloc (ofB x o 37) = W0 at *
  have hPB : w.heap.size < w.heap.size + 1 := by omega
  generalize hBB : w.heap.size + 1 = B at *
  have HBB : Hid (w.heap.size + 1 = B) := hBB
  clear hBB m0 N0 e1 HB T I
  have K4 : Below W0.heap.size W0 w4 := by rw [HE1.out]; exact LB4
  have n4 := kept K4 (lt_of HM0.out) HM0.out
  have c3 : w4.cell? ⟨w.heap.size, 3, none⟩ = some (.slice x.a3 o.od.length x.c3) := cell_at n4 3
  clear K4 n4
  go_wp2
  clear c3
  go_loopw [18] (fun i wr => ∃ (k : Nat) (v : Value), k ≤ o.od.length ∧ i = .int .i64 k ∧ Bw B B v (otO o k) wr ∧ Below B W0 wr) (fun i _ => o.od.length - (intOf i).toNat)
  case atStart => exact ⟨0, v4, by omega, rfl, BW4, LB4⟩
  case round =>
    obtain ⟨k, v, hk, rfl, BK, LK⟩ := hrel
    have KK : Below W0.heap.size W0 wr := by rw [HE1.out]; exact LK
    have hBw : B ≤ wr.heap.size := by have := KK.size; rw [HE1.out] at this; exact this
    by_cases hkn : k < o.od.length
    · obtain ⟨b, u, ai, ci, ha, hlt, c0, c1, c2, c3, c4, c6, c7, c8, c5, J⟩ := (I4.od.on KK).at k hkn
      obtain ⟨hw, hnm⟩ := HF.out.od o.od[k] (List.getElem_mem hkn)
      have HS : Hid (otO o (k + 1) = otO o k ++ linO o.od[k]) := cat_step _ _ _ k hkn
      have hsz := otO_size o HF.out (k + 1) (by omega)
      rw [HS.out, ba_size] at hsz
      have HLO : Hid (linO o.od[k] = (⟨#[111, 114, 100, 101, 114]⟩ ++ ws (numO o.od[k].h)) ++ ⟨#[32]⟩ ++ o.od[k].h.nm ++ ⟨#[10]⟩) := rfl
      have hw7 := Tk.ws_wide_all _ hw
      have HW : Hid (∀ (W : World) (g : Nat), RowZ W g [o.od[k].h.id, o.od[k].h.st, o.od[k].h.cl, o.od[k].h.ca, o.od[k].h.pr, o.od[k].h.pa, o.od[k].h.fi] → Tens W → Calls Tryd.prog 23 #[.string ⟨#[111, 114, 100, 101, 114]⟩, .slice (some ⟨g, 0, none⟩) 7 7] W fun e w' => e = .returned (.string (⟨#[111, 114, 100, 101, 114]⟩ ++ ws (numO o.od[k].h))) ∧ Below W.heap.size W w') := fun W g R T => Tk.wan_val ⟨#[111, 114, 100, 101, 114]⟩ (numO o.od[k].h) g 7 W (by decide) (by show 7 ≤ 10; omega) hw R T
      have hX1 : (⟨#[111, 114, 100, 101, 114]⟩ ++ ws (numO o.od[k].h) : ByteArray).size ≤ 200 := by
        have z1 : (⟨#[111, 114, 100, 101, 114]⟩ : ByteArray).size = 5 := rfl
        have z2 : (numO o.od[k].h).length = 7 := rfl
        rw [ba_size, z1]
        omega
      have N5 := new_below wr (Od.odB o.od[k].h ai o.od[k].l.length ci 50)
      have m5 := heap_new wr (Od.odB o.od[k].h ai o.od[k].l.length ci 50)
      have BK5 := BK.on N5
      have hQ := BK.at_lt
      have HQV : Hid (v.ownBlock ≠ some wr.heap.size) := fun h => Nat.lt_irrefl _ (BK.lt _ h)
      have K5 := join_below KK N5
      have LK5 : Below B W0 (wr.alloc (Od.odB o.od[k].h ai o.od[k].l.length ci 50)) := by have h := K5; rw [HE1.out] at h; exact h
      have T5 := HT.out.on (join_below HN0.out K5)
      rw [ha] at *
      generalize otO o k = O at *
      generalize linO o.od[k] = Y at *
      generalize ⟨#[111, 114, 100, 101, 114]⟩ ++ ws (numO o.od[k].h) = X1 at *
      generalize o.od[k].l.length = m at *
      generalize o.od[k].h = p at *
      clear hw hw7 BK LK KK K5 J
      obtain ⟨pid, pst, pnm, pcl, pca, ppr, ppa, pfi⟩ := p
      simp only at *
      go_wp2
      generalize wr.alloc (Od.odB ⟨pid, pst, pnm, pcl, pca, ppr, ppa, pfi⟩ ai m ci 50) = W1 at *
      have q0 : W1.cell? ⟨wr.heap.size, 0, none⟩ = some (.int .i64 pid) := cell_at m5 0
      have q1 : W1.cell? ⟨wr.heap.size, 1, none⟩ = some (.int .i64 pst) := cell_at m5 1
      have q2 : W1.cell? ⟨wr.heap.size, 2, none⟩ = some (.string pnm) := cell_at m5 2
      have q3 : W1.cell? ⟨wr.heap.size, 3, none⟩ = some (.int .i64 pcl) := cell_at m5 3
      have q4 : W1.cell? ⟨wr.heap.size, 4, none⟩ = some (.int .i64 pca) := cell_at m5 4
      have q6 : W1.cell? ⟨wr.heap.size, 6, none⟩ = some (.int .i64 ppr) := cell_at m5 6
      have q7 : W1.cell? ⟨wr.heap.size, 7, none⟩ = some (.int .i64 ppa) := cell_at m5 7
      have q8 : W1.cell? ⟨wr.heap.size, 8, none⟩ = some (.int .i64 pfi) := cell_at m5 8
      have RZ : RowZ (W1.alloc (.cells #[.int .i64 pid, .int .i64 pst, .int .i64 pcl, .int .i64 pca, .int .i64 ppr, .int .i64 ppa, .int .i64 pfi] 3)).drew W1.heap.size [pid, pst, pcl, pca, ppr, ppa, pfi] := RowZ.new W1 [pid, pst, pcl, pca, ppr, ppa, pfi] 3
      have N6 : Below W1.heap.size W1 (W1.alloc (.cells #[.int .i64 pid, .int .i64 pst, .int .i64 pcl, .int .i64 pca, .int .i64 ppr, .int .i64 ppa, .int .i64 pfi] 3)) := new_below W1 (.cells (([pid, pst, pcl, pca, ppr, ppa, pfi] : List Int).map (Value.int .i64)).toArray 3)
      have m6 := kept N6 (lt_of m5) m5
      have T6 : Tens (W1.alloc (.cells #[.int .i64 pid, .int .i64 pst, .int .i64 pcl, .int .i64 pca, .int .i64 ppr, .int .i64 ppa, .int .i64 pfi] 3)).drew := T5.on N6.drew
      have BK6 := BK5.on N6
      have LK6 : Below B W0 (W1.alloc (.cells #[.int .i64 pid, .int .i64 pst, .int .i64 pcl, .int .i64 pca, .int .i64 ppr, .int .i64 ppa, .int .i64 pfi] 3)) := LK5.trans (N6.mono (by have := lt_of m5; omega))
      have hlt1 := lt_of m5
      have b1 : ¬ 9223372036854775807 < X1.size + 1 := by omega
      have b2 : ¬ 9223372036854775807 < X1.size + 1 + pnm.size := by omega
      have b3 : ¬ 9223372036854775807 < X1.size + 1 + pnm.size + 1 := by omega
      have HWR : Hid (∀ (W : World), Bw B B v O W → B ≤ W.heap.size → Calls Tryd.prog 21 #[.pointer (some ⟨B, 0, none⟩), .string (X1 ++ ⟨#[32]⟩ ++ pnm ++ ⟨#[10]⟩)] W fun e w' => e = .returned (.tuple #[.int .i64 (X1 ++ ⟨#[32]⟩ ++ pnm ++ ⟨#[10]⟩ : ByteArray).size, .nilIface]) ∧ (∃ v', Bw B B v' (O ++ (X1 ++ ⟨#[32]⟩ ++ pnm ++ ⟨#[10]⟩)) w') ∧ Below B W w' ∧ ∀ k, k < W.heap.size → k ≠ B → v.ownBlock ≠ some k → w'.heap[k]? = W.heap[k]?) := fun W h hB => write_val B B v O _ W h (by rw [← HLO.out]; omega) hB
      clear N6 BK5 LK5 T5 hsz
      go_region_held3 (fun w' => w'.cell? ⟨wr.heap.size, 0, none⟩ = some (.int .i64 pid) ∧ w'.cell? ⟨wr.heap.size, 1, none⟩ = some (.int .i64 pst) ∧ w'.cell? ⟨wr.heap.size, 2, none⟩ = some (.string pnm) ∧ w'.cell? ⟨wr.heap.size, 3, none⟩ = some (.int .i64 pcl) ∧ w'.cell? ⟨wr.heap.size, 4, none⟩ = some (.int .i64 pca) ∧ w'.cell? ⟨wr.heap.size, 6, none⟩ = some (.int .i64 ppr) ∧ w'.cell? ⟨wr.heap.size, 7, none⟩ = some (.int .i64 ppa) ∧ w'.cell? ⟨wr.heap.size, 8, none⟩ = some (.int .i64 pfi)) (go_keep) (first
        | (go_at_call 23; (with_reducible refine (HW.out _ _ RZ T6).mono ?_); rintro e w7 ⟨rfl, M0⟩; have M1 := undrew M0; have m7 := kept M1 (lt_of m6) m6; have BK7 := BK6.on M1; have LK7 := LK6.trans (M1.mono (by have := lt_of m6; omega)); have d0 : w7.cell? ⟨wr.heap.size, 0, none⟩ = some (.int .i64 pid) := cell_at m7 0; have d1 : w7.cell? ⟨wr.heap.size, 1, none⟩ = some (.int .i64 pst) := cell_at m7 1; have d2 : w7.cell? ⟨wr.heap.size, 2, none⟩ = some (.string pnm) := cell_at m7 2; have d3 : w7.cell? ⟨wr.heap.size, 3, none⟩ = some (.int .i64 pcl) := cell_at m7 3; have d4 : w7.cell? ⟨wr.heap.size, 4, none⟩ = some (.int .i64 pca) := cell_at m7 4; have d6 : w7.cell? ⟨wr.heap.size, 6, none⟩ = some (.int .i64 ppr) := cell_at m7 6; have d7 : w7.cell? ⟨wr.heap.size, 7, none⟩ = some (.int .i64 ppa) := cell_at m7 7; have d8 : w7.cell? ⟨wr.heap.size, 8, none⟩ = some (.int .i64 pfi) := cell_at m7 8; clear M0 M1)
        | (go_at_call 21; (with_reducible refine (HWR.out _ ?_ ?_).mono ?_); (first | exact BK7 | exact BK7.drew); (have := lt_of m7; show B ≤ w7.heap.size; omega); rintro e w8 ⟨rfl, ⟨v8, BK8⟩, L8, K8⟩; have m8 : w8.heap[wr.heap.size]? = some (Od.odB ⟨pid, pst, pnm, pcl, pca, ppr, ppa, pfi⟩ ai m ci 50) := (by rw [K8 wr.heap.size (lt_of m7) (by omega) HQV.out]; exact m7); have LK8 : Below B W0 w8 := (by first | exact LK7.trans L8 | exact LK7.drew.trans L8); have f0 : w8.cell? ⟨wr.heap.size, 0, none⟩ = some (.int .i64 pid) := cell_at m8 0; have f1 : w8.cell? ⟨wr.heap.size, 1, none⟩ = some (.int .i64 pst) := cell_at m8 1; have f2 : w8.cell? ⟨wr.heap.size, 2, none⟩ = some (.string pnm) := cell_at m8 2; have f3 : w8.cell? ⟨wr.heap.size, 3, none⟩ = some (.int .i64 pcl) := cell_at m8 3; have f4 : w8.cell? ⟨wr.heap.size, 4, none⟩ = some (.int .i64 pca) := cell_at m8 4; have f6 : w8.cell? ⟨wr.heap.size, 6, none⟩ = some (.int .i64 ppr) := cell_at m8 6; have f7 : w8.cell? ⟨wr.heap.size, 7, none⟩ = some (.int .i64 ppa) := cell_at m8 7; have f8 : w8.cell? ⟨wr.heap.size, 8, none⟩ = some (.int .i64 pfi) := cell_at m8 8; clear L8 K8))
      all_goals
        go_wp2
        go_roundw
        case rel => exact ⟨k + 1, v8, by omega, by go_num, by rw [HS.out, HLO.out]; exact BK8, LK8⟩
        case measure => simp [intOf]; omega
    · obtain rfl : k = o.od.length := by omega
      have n4 := kept KK (lt_of HM0.out) HM0.out
      have cF : wr.cell? ⟨w.heap.size, 2, none⟩ = some (.slice x.a2 o.ho.length x.c2) := cell_at n4 2
      rw [← otH_0] at BK
      clear n4 KK hkn hBw hk
      go_wp2
      clear cF
      generalize wr = w9 at *
      go_loopw [48] (fun i wr => ∃ (k : Nat) (v : Value), k ≤ o.ho.length ∧ i = .int .i64 k ∧ Bw B B v (otH o k) wr ∧ Below B W0 wr) (fun i _ => o.ho.length - (intOf i).toNat)
      case atStart => exact ⟨0, v, by omega, rfl, BK, LK⟩
      case round =>
        clear BK LK
        obtain ⟨k, v, hk, rfl, BK, LK⟩ := hrel
        have KK : Below W0.heap.size W0 wr := by rw [HE1.out]; exact LK
        have hBw : B ≤ wr.heap.size := by have := KK.size; rw [HE1.out] at this; exact this
        by_cases hkn : k < o.ho.length
        · obtain ⟨b, u, ha, hlt, hc0, hc1, hc2, hc3, hc4, hc5, hc6⟩ := (I4.ho.on KK).at k hkn
          have hw := HF.out.ho o.ho[k] (List.getElem_mem hkn)
          have HS : Hid (otH o (k + 1) = otH o k ++ linH o.ho[k]) := cat_step _ _ _ k hkn
          have hsz := otH_size o HF.out (k + 1) (by omega)
          rw [HS.out, ba_size] at hsz
          have HW : Hid (∀ (W : World) (g : Nat), RowZ W g [o.ho[k].tr, o.ho[k].dy, o.ho[k].co, o.ho[k].se, o.ho[k].ba, o.ho[k].be, o.ho[k].od] → Tens W → Calls Tryd.prog 22 #[.string ⟨#[104, 111, 108, 100]⟩, .slice (some ⟨g, 0, none⟩) 7 7] W fun e w' => e = .returned (.string (linH o.ho[k])) ∧ Below W.heap.size W w') := fun W g R T => Tk.lineW_val ⟨#[104, 111, 108, 100]⟩ (numH o.ho[k]) g 7 W (by decide) (by show 7 ≤ 10; omega) hw R T
          rw [ha] at *
          generalize otH o k = O at *
          generalize linH o.ho[k] = Y at *
          generalize o.ho[k] = p at *
          clear hw
          obtain ⟨p0, p1, p2, p3, p4, p5, p6⟩ := p
          simp only at *
          have RZ := RowZ.new (wr.alloc (.cells #[.int .i64 p0, .int .i64 p1, .int .i64 p2, .int .i64 p3, .int .i64 p4, .int .i64 p5, .int .i64 p6] 54)) [p0, p1, p2, p3, p4, p5, p6] 3
          have eS : (wr.alloc (.cells #[.int .i64 p0, .int .i64 p1, .int .i64 p2, .int .i64 p3, .int .i64 p4, .int .i64 p5, .int .i64 p6] 54)).heap.size = wr.heap.size + 1 := Array.size_push ..
          rw [eS] at RZ
          have NN := join_below (new_below wr (.cells #[.int .i64 p0, .int .i64 p1, .int .i64 p2, .int .i64 p3, .int .i64 p4, .int .i64 p5, .int .i64 p6] 54)) (new_below _ (.cells (([p0, p1, p2, p3, p4, p5, p6] : List Int).map (Value.int .i64)).toArray 3))
          have T5 := HT.out.on (join_below HN0.out (join_below KK NN))
          have BK5 := BK.on NN
          have LK5 := LK.trans (NN.mono hBw)
          have hs5 := NN.size
          clear NN eS KK BK LK
          go_wp2_with fail
          refine (HW.out _ _ RZ T5).mono ?_
          rintro e w6 ⟨rfl, L6⟩
          have BK6 := BK5.on L6
          have hB6 : B ≤ w6.heap.size := by have := L6.size; omega
          have LK6 := LK5.trans (L6.mono (by omega))
          have HWR : Hid (∀ _ : Unit, _) := fun _ => write_val B B v O Y w6 BK6 (by omega) hB6
          clear BK5 LK5 L6 RZ T5 HW hs5 hsz BK6
          go_wp2_with fail
          refine (HWR.out ()).mono ?_
          rintro e w8 ⟨rfl, ⟨v8, BK8⟩, L8, -⟩
          have LK8 := LK6.trans L8
          clear LK6 L8 HWR
          go_wp2
          go_roundw
          case rel => exact ⟨k + 1, v8, by omega, by go_num, by rw [HS.out]; exact BK8, LK8⟩
          case measure => simp [intOf]; omega
        · obtain rfl : k = o.ho.length := by omega
          have n4 := kept KK (lt_of HM0.out) HM0.out
          have cF : wr.cell? ⟨w.heap.size, 4, none⟩ = some (.slice x.a4 o.to.length x.c4) := cell_at n4 4
          rw [← otR_0] at BK
          clear n4 KK hkn hBw hk
          go_wp2
          clear cF
          generalize wr = w10 at *
          go_loopw [73] (fun i wr => ∃ (k : Nat) (v : Value), k ≤ o.to.length ∧ i = .int .i64 k ∧ Bw B B v (otR o k) wr ∧ Below B W0 wr) (fun i _ => o.to.length - (intOf i).toNat)
          case atStart => exact ⟨0, v, by omega, rfl, BK, LK⟩
          case round =>
            clear BK LK
            obtain ⟨k, v, hk, rfl, BK, LK⟩ := hrel
            have KK : Below W0.heap.size W0 wr := by rw [HE1.out]; exact LK
            have hBw : B ≤ wr.heap.size := by have := KK.size; rw [HE1.out] at this; exact this
            by_cases hkn : k < o.to.length
            · obtain ⟨b, u, ha, hlt, hc0, hc1, hc2, hc3⟩ := (I4.to.on KK).at k hkn
              have hw := HF.out.to o.to[k] (List.getElem_mem hkn)
              have HS : Hid (otR o (k + 1) = otR o k ++ linR o.to[k]) := cat_step _ _ _ k hkn
              have hsz := otR_size o HF.out (k + 1) (by omega)
              rw [HS.out, ba_size] at hsz
              have HW : Hid (∀ (W : World) (g : Nat), RowZ W g [o.to[k].rq, o.to[k].sa, o.to[k].od, o.to[k].am] → Tens W → Calls Tryd.prog 22 #[.string ⟨#[116, 111, 108, 100]⟩, .slice (some ⟨g, 0, none⟩) 4 4] W fun e w' => e = .returned (.string (linR o.to[k])) ∧ Below W.heap.size W w') := fun W g R T => Tk.lineW_val ⟨#[116, 111, 108, 100]⟩ (numR o.to[k]) g 4 W (by decide) (by show 4 ≤ 10; omega) hw R T
              rw [ha] at *
              generalize otR o k = O at *
              generalize linR o.to[k] = Y at *
              generalize o.to[k] = p at *
              clear hw
              obtain ⟨p0, p1, p2, p3⟩ := p
              simp only at *
              have RZ := RowZ.new (wr.alloc (.cells #[.int .i64 p0, .int .i64 p1, .int .i64 p2, .int .i64 p3] 56)) [p0, p1, p2, p3] 3
              have eS : (wr.alloc (.cells #[.int .i64 p0, .int .i64 p1, .int .i64 p2, .int .i64 p3] 56)).heap.size = wr.heap.size + 1 := Array.size_push ..
              rw [eS] at RZ
              have NN := join_below (new_below wr (.cells #[.int .i64 p0, .int .i64 p1, .int .i64 p2, .int .i64 p3] 56)) (new_below _ (.cells (([p0, p1, p2, p3] : List Int).map (Value.int .i64)).toArray 3))
              have T5 := HT.out.on (join_below HN0.out (join_below KK NN))
              have BK5 := BK.on NN
              have LK5 := LK.trans (NN.mono hBw)
              have hs5 := NN.size
              clear NN eS KK BK LK
              go_wp2_with fail
              refine (HW.out _ _ RZ T5).mono ?_
              rintro e w6 ⟨rfl, L6⟩
              have BK6 := BK5.on L6
              have hB6 : B ≤ w6.heap.size := by have := L6.size; omega
              have LK6 := LK5.trans (L6.mono (by omega))
              have HWR : Hid (∀ _ : Unit, _) := fun _ => write_val B B v O Y w6 BK6 (by omega) hB6
              clear BK5 LK5 L6 RZ T5 HW hs5 hsz BK6
              go_wp2_with fail
              refine (HWR.out ()).mono ?_
              rintro e w8 ⟨rfl, ⟨v8, BK8⟩, L8, -⟩
              have LK8 := LK6.trans L8
              clear LK6 L8 HWR
              go_wp2
              go_roundw
              case rel => exact ⟨k + 1, v8, by omega, by go_num, by rw [HS.out]; exact BK8, LK8⟩
              case measure => simp [intOf]; omega
            · obtain rfl : k = o.to.length := by omega
              have HIS := BK.is
              have HSX : Hid (∀ _ : Unit, _) := fun _ => Tryd.Builder_String_any B B (otR o o.to.length).data.toList wr HIS hBw
              have eX : (⟨(otR o o.to.length).data.toList.toArray⟩ : ByteArray) = X := by rw [← HX.out]; unfold otS; simp
              rw [eX] at HSX
              clear KK hkn hk HIS BK eX
              go_wp2_with fail
              refine (HSX.out ()).mono ?_
              rintro e w11 ⟨rfl, L11⟩
              have LF := HN0.out.trans ((LK.trans L11).mono (Nat.le_of_lt hPB))
              go_wp2
              go_ret
              exact ⟨rfl, LF⟩

end Ot
end Go.Proofs.YtbmcnkfhiiicjaaDoor

/- Revoke of the program. -/
import Derived.Test.YtbmfhdlbbaabgaaCeInsI
import Derived.Test.YtbmfhdlbbaabgaaCeRevS
import Derived.Test.YtbmfhdlbbaabgaaShelf
import Derived.Deep.RegionHeld3
namespace Go.Proofs.Ytbmfhdlbbaabgaa
namespace Hn
open Go.ChangeShapes Go.WideShapes Go.ChangeAt Go.RowKit Go.Joins
open Pk (new_below join_below cell_at heap_new frozen_at lt_of kept heap_old Drawn info_of Room own_form own_below)
set_option linter.unusedSimpArgs false
set_option linter.unusedVariables false

theorem w64 (z : Int) : IntKind.i64.wrap z = wrap64 z := by
  first
    | rfl
    | (rw [IntKind.wrap_i64]; done)
    | (rw [IntKind.wrap_i64]; unfold wrap64; omega)

set_option maxRecDepth 100000 in
set_option maxHeartbeats 8000000 in
theorem implRev_at (x : Pl) (o : Ctr) (id : Int) (w : World) (hz : o.ol.length ≤ 1048576) (hz2 : o.sl.length ≤ 1048576) (I : In w x o) (fl : (∃ b u, x.a = some ⟨b, u, none⟩) ∧ At x.b o.sl.length x.d) :
    Calls Try.prog 16 #[ceV x o, .int .i64 id] w fun e w' => ∃ y, e = .returned (.tuple #[ceV y (revO (revB o id) o id), .bool (revB o id)]) ∧ Copied w.heap.size w' y (revO (revB o id) o id) ∧ Below w.heap.size w w' := by
  obtain ⟨k0, k1, hs⟩ := two_blocks w (ceB x o 27) (.cells #[.int .i64 0, .slice none 0 0, .slice none 0 0] 27)
  have L : Below w.heap.size w ((w.alloc (ceB x o 27)).alloc (.cells #[.int .i64 0, .slice none 0 0, .slice none 0 0] 27)) := join_below (new_below _ _) (new_below _ _)
  have HC : Hid (∀ W : World, In W x o → _) := fun W h => implCopy_at x o W hz hz2 h ⟨Or.inr fl.1, fl.2⟩
  have HH : Hid (∀ W : World, In W x o → _) := fun W h => implCentre_val x o W hz hz2 h
  have HFL : Hid ((∃ b u, x.a = some ⟨b, u, none⟩) ∧ At x.b o.sl.length x.d) := fl
  clear fl
  go_enter Try.func16, Try.ntmps16
  go_wp2_with fail
  refine named fun V0 hV => ?_
  rw [← hV] at k0 k1 L hs
  clear hV
  refine (HH.out _ (I.on L)).mono ?_
  rintro e v1 ⟨rfl, L1⟩
  have n0 := kept L1 (lt_of k0) k0
  have n1 := kept L1 (lt_of k1) k1
  have B1 := join_below L L1
  clear k0 k1 L L1 HH
  cases hb : cenB o
  · have HV : Hid (revB o id = false) := rev_no0 hb
    clear hb HFL
    have a0 : v1.cell? ⟨w.heap.size, 0, none⟩ = some (.int .i64 o.ve) := cell_at n0 0
    have a1 : v1.cell? ⟨w.heap.size, 1, none⟩ = some (.slice x.a o.ol.length x.c) := cell_at n0 1
    have a2 : v1.cell? ⟨w.heap.size, 2, none⟩ = some (.slice x.b o.sl.length x.d) := cell_at n0 2
    go_wp2_with fail
    refine (HC.out _ (I.on B1)).mono ?_
    rintro e z2 ⟨y, rfl, CY, LY⟩
    have y1 := kept LY (lt_of n1) n1
    have BY := join_below B1 LY
    have hlz : w.heap.size + 1 + 1 ≤ v1.heap.size := by have := lt_of n1; omega
    clear a0 a1 a2 LY
    have e0 : z2.cell? ⟨w.heap.size + 1, 0, none⟩ = some (.int .i64 0) := cell_at y1 0
    have e1 : z2.cell? ⟨w.heap.size + 1, 1, none⟩ = some (.slice none 0 0) := cell_at y1 1
    have e2 : z2.cell? ⟨w.heap.size + 1, 2, none⟩ = some (.slice none 0 0) := cell_at y1 2
    have f0 : z2.frozen? ⟨w.heap.size + 1, 0, none⟩ = false := frozen_at y1 0
    have f1 : z2.frozen? ⟨w.heap.size + 1, 1, none⟩ = false := frozen_at y1 1
    have f2 : z2.frozen? ⟨w.heap.size + 1, 2, none⟩ = false := frozen_at y1 2
    have HFIN : Hid (∀ W, Sw (w.heap.size + 1) (w.heap.size) z2 W → Copied w.heap.size W y (revO false o id)) := fun W s => ⟨own_lower (s.own CY.off (by omega) (by omega)) (by omega), own_lower (s.own CY.seen (by omega) (by omega)) (by omega)⟩
    have HB : Hid (∀ W, Below w.heap.size z2 W → Below w.heap.size w W) := fun W l => BY.trans l
    clear CY y1 BY hlz n0 n1 B1 I
    go_wp2
    refine bodyPost_ret (v := .tuple #[ceV y (o), .bool false]) (by simp [results, Try.results16, go_sem, e0, e1, e2]) rfl ?_
    refine ⟨y, by rw [HV.out] <;> rfl, ?_, HB.out _ ?_⟩
    · rw [HV.out]
      refine HFIN.out _ ?_
      (repeat' (first | with_reducible exact Sw.refl _ _ _ | with_reducible apply Sw.one | with_reducible apply Sw.two))
    · (repeat' (first | apply Below.setCell | exact Below.refl _ _)) <;> first | (simp; done) | (simp; omega)
  have HCN : Hid (cenB o = true) := hb
  clear hb
  obtain ⟨⟨b, u, ea⟩, hxb⟩ := HFL.out
  obtain ⟨xa, xc, xb, xd⟩ := x
  simp only at ea
  subst ea
  have HXB : Hid (At xb o.sl.length xd) := hxb
  clear hxb
  clear HFL
  have hlen := offB_len (cen_off HCN.out)
  have HCT : Hid (o.ol.countP (· < id) = posI id o.ol) := off_count (offB_G (cen_off HCN.out))
  have hpl := pos_le id o.ol
  have I1 : Ints v1 (some ⟨b, u, none⟩) o.ol := I.off.on B1
  have HBS := Try.slices_BinarySearch_int b u o.ol.length xc o.ol id v1 (Nat.le_refl _) (by omega) (fun j hj => by
    obtain ⟨b', u', e', -, hc⟩ := I1.at j hj
    simp only [Option.some.injEq, Addr.mk.injEq, and_true] at e'
    obtain ⟨rfl, rfl⟩ := e'
    rw [hc, List.getD_eq_getElem?_getD, List.getElem?_eq_getElem hj]
    rfl) (by rw [List.take_length]; exact off_sorted (offB_G (cen_off HCN.out)))
  rw [List.take_length, HCT.out] at HBS
  generalize hgen : o.ol.contains id = cx at HBS
  clear hgen
  have c1 : v1.cell? ⟨w.heap.size, 1, none⟩ = some (.slice (some ⟨b, u, none⟩) o.ol.length xc) := cell_at n0 1
  go_wp2_with fail
  refine HBS.mono ?_
  rintro e v2 ⟨rfl, q, hq⟩
  have D2 : Drawn v1 v2 := ⟨q, hq⟩
  have L2 := D2.below v1.heap.size
  have p0 := kept L2 (lt_of n0) n0
  have p1 := kept L2 (lt_of n1) n1
  have B2 := join_below B1 L2
  clear D2 L2 hq HBS c1 n0 n1 I1
  have c1 : v2.cell? ⟨w.heap.size, 1, none⟩ = some (.slice (some ⟨b, u, none⟩) o.ol.length xc) := cell_at p0 1
  have HKP : Hid (posI id o.ol = posI id o.ol) := rfl
  generalize hk : posI id o.ol = k at *
  have HPK : Hid (posI id o.ol = k) := hk
  clear hk HKP HCT
  go_wp2_with fail
  refine (clone_ints b u o.ol xc v2 hz (I.off.on B2)).mono ?_
  rintro e v4 ⟨v, rfl, O4, L4⟩
  have q0 := kept L4 (lt_of p0) p0
  have q1 := kept L4 (lt_of p1) p1
  have B4 := join_below B2 L4
  have hl24 : v2.heap.size ≤ v4.heap.size := L4.size
  have hlo2 : w.heap.size + 1 + 1 ≤ v2.heap.size := by have := lt_of p1; omega
  clear L4 c1
  have N5 := new_below v4 (.cells #[.int .i64 id] 3)
  have m5 := heap_new v4 (.cells #[.int .i64 id] 3)
  have O5 := own_below O4 N5 (Nat.le_refl _)
  have r0 := kept N5 (lt_of q0) q0
  have r1 := kept N5 (lt_of q1) q1
  have B5 := join_below B4 N5
  have hne5 : v.ownBlock ≠ some v4.heap.size := fun h => by have := (O4.lt _ h).2; omega
  have HI := insert_val v2.heap.size o.ol v k id v4.heap.size 1 _ hpl hz (Nat.le_trans hl24 N5.size) O5 m5 hne5
  obtain ⟨va4, vc4, rfl, -⟩ := own_form O4
  clear O4 O5 hne5 m5 q0 q1 B4 N5
  go_wp2_with fail
  refine HI.mono ?_
  rintro e v6 ⟨v', rfl, O6, L6⟩
  have s0 := kept (L6.mono (Nat.le_refl _)) (by omega) r0
  have s1 := kept (L6.mono (Nat.le_refl _)) (by omega) r1
  have B6 : Below w.heap.size w v6 := B5.trans (L6.mono (by omega))
  have hins : o.ol.take k ++ id :: o.ol.drop k = insI id o.ol := by rw [ins_is, HPK.out]
  rw [hins, ← ins_len id o.ol] at O6
  have hil : (insI id o.ol).length ≤ 1048576 := by rw [ins_len]; omega
  obtain ⟨va, vc, rfl, IO⟩ := own_ints O6
  clear HI r0 r1 B5 hins L6
  have HO := implOff_val va (insI id o.ol) vc v6 hil IO
  cases hof : offB (insI id o.ol)
  · have HV : Hid (revB o id = false) := rev_no1 hof
    rw [hof] at HO
    clear hof
    go_wp2_with fail
    refine HO.mono ?_
    rintro e v7 ⟨rfl, rfl⟩
    clear HO O6 IO p0 p1 B2 hil
    have a0 : v7.cell? ⟨w.heap.size, 0, none⟩ = some (.int .i64 o.ve) := cell_at s0 0
    have a1 : v7.cell? ⟨w.heap.size, 1, none⟩ = some (.slice (some ⟨b, u, none⟩) o.ol.length xc) := cell_at s0 1
    have a2 : v7.cell? ⟨w.heap.size, 2, none⟩ = some (.slice xb o.sl.length xd) := cell_at s0 2
    go_wp2_with fail
    refine (HC.out _ (I.on B6)).mono ?_
    rintro e z2 ⟨y, rfl, CY, LY⟩
    have y1 := kept LY (lt_of s1) s1
    have BY := join_below B6 LY
    have hlz : w.heap.size + 1 + 1 ≤ v7.heap.size := by have := lt_of s1; omega
    clear a0 a1 a2 LY
    have e0 : z2.cell? ⟨w.heap.size + 1, 0, none⟩ = some (.int .i64 0) := cell_at y1 0
    have e1 : z2.cell? ⟨w.heap.size + 1, 1, none⟩ = some (.slice none 0 0) := cell_at y1 1
    have e2 : z2.cell? ⟨w.heap.size + 1, 2, none⟩ = some (.slice none 0 0) := cell_at y1 2
    have f0 : z2.frozen? ⟨w.heap.size + 1, 0, none⟩ = false := frozen_at y1 0
    have f1 : z2.frozen? ⟨w.heap.size + 1, 1, none⟩ = false := frozen_at y1 1
    have f2 : z2.frozen? ⟨w.heap.size + 1, 2, none⟩ = false := frozen_at y1 2
    have HFIN : Hid (∀ W, Sw (w.heap.size + 1) (w.heap.size) z2 W → Copied w.heap.size W y (revO false o id)) := fun W s => ⟨own_lower (s.own CY.off (by omega) (by omega)) (by omega), own_lower (s.own CY.seen (by omega) (by omega)) (by omega)⟩
    have HB : Hid (∀ W, Below w.heap.size z2 W → Below w.heap.size w W) := fun W l => BY.trans l
    clear CY y1 BY hlz s0 s1 B6 I
    go_wp2
    refine bodyPost_ret (v := .tuple #[ceV y (o), .bool false]) (by simp [results, Try.results16, go_sem, e0, e1, e2]) rfl ?_
    refine ⟨y, by rw [HV.out] <;> rfl, ?_, HB.out _ ?_⟩
    · rw [HV.out]
      refine HFIN.out _ ?_
      (repeat' (first | with_reducible exact Sw.refl _ _ _ | with_reducible apply Sw.one | with_reducible apply Sw.two))
    · (repeat' (first | apply Below.setCell | exact Below.refl _ _)) <;> first | (simp; done) | (simp; omega)
  · have HV : Hid (revB o id = true) := rev_is HCN.out hof
    rw [hof] at HO
    clear hof
    go_wp2_with fail
    refine HO.mono ?_
    rintro e v7 ⟨rfl, rfl⟩
    clear HO IO p0 p1 B2 hil
    have HCC : Hid (∀ W : World, Controls W xb o.sl → _) := fun W h => clone_ctls_at xb o.sl xd W hz2 HXB.out h
    have HCI : Hid (∀ W, Below v7.heap.size v7 W → Controls W xb o.sl) := fun W l => I.seen.on (join_below B6 l)
    have HM0 : Hid (∀ W, Below v7.heap.size v7 W → W.heap[w.heap.size]? = some (ceB ⟨some ⟨b, u, none⟩, xc, xb, xd⟩ o 27)) := fun W l => kept l (lt_of s0) s0
    have HM1 : Hid (∀ W, Below v7.heap.size v7 W → W.heap[w.heap.size + 1]? = some (.cells #[.int .i64 0, .slice none 0 0, .slice none 0 0] 27)) := fun W l => kept l (lt_of s1) s1
    have g0 : v7.cell? ⟨w.heap.size, 0, none⟩ = some (.int .i64 o.ve) := cell_at s0 0
    have g2 : v7.cell? ⟨w.heap.size, 2, none⟩ = some (.slice xb o.sl.length xd) := cell_at s0 2
    go_wp2
    go_region_held3 (fun w' => w'.cell? ⟨w.heap.size, 0, none⟩ = some (.int .i64 o.ve) ∧ w'.cell? ⟨w.heap.size, 2, none⟩ = some (.slice xb o.sl.length xd)) (go_keep) ((go_at_call 47; (with_reducible refine (HCC.out _ ?_).mono ?_); (first | exact HCI.out _ (Below.refl _ _) | exact HCI.out _ (Below.refl _ _).drew); rintro e v8 ⟨vs, rfl, O8, L8⟩; have K8 : Below v7.heap.size v7 v8 := (by first | exact L8 | exact ((Below.refl _ _).drew).trans L8); have t0 := HM0.out _ K8; have t1 := HM1.out _ K8; have h0 : v8.cell? ⟨w.heap.size, 0, none⟩ = some (.int .i64 o.ve) := cell_at t0 0; have h2 : v8.cell? ⟨w.heap.size, 2, none⟩ = some (.slice xb o.sl.length xd) := cell_at t0 2; have e0 : v8.cell? ⟨w.heap.size + 1, 0, none⟩ = some (.int .i64 0) := cell_at t1 0; have e1 : v8.cell? ⟨w.heap.size + 1, 1, none⟩ = some (.slice none 0 0) := cell_at t1 1; have e2 : v8.cell? ⟨w.heap.size + 1, 2, none⟩ = some (.slice none 0 0) := cell_at t1 2; have f0 : v8.frozen? ⟨w.heap.size + 1, 0, none⟩ = false := frozen_at t1 0; have f1 : v8.frozen? ⟨w.heap.size + 1, 1, none⟩ = false := frozen_at t1 1; have f2 : v8.frozen? ⟨w.heap.size + 1, 2, none⟩ = false := frozen_at t1 2; obtain ⟨sa, sc, rfl, -⟩ := own_form O8))
    all_goals
      have hl78 : w.heap.size + 1 + 1 ≤ v7.heap.size := by have := lt_of s1; omega
      have O9 := own_below O6 K8 (Nat.le_refl _)
      have O8' := O8
      have HFIN : Hid (∀ W, Sw (w.heap.size + 1) (w.heap.size) v8 W → Copied w.heap.size W ⟨va, vc, sa, sc⟩ (revO true o id)) := fun W s => ⟨own_lower (s.own O9 (by omega) (by omega)) (by omega), own_lower (s.own O8' (by first | omega | (show _ < v7.heap.size; omega)) (by first | omega | (show _ < v7.heap.size; omega))) (by first | omega | (show _ ≤ v7.heap.size; omega))⟩
      have HB : Hid (∀ W, Below w.heap.size v8 W → Below w.heap.size w W) := fun W l => (join_below B6 K8).trans l
      clear O9 O8' O8 O6 HM0 HM1 t0 t1 L8 K8 B6 s0 s1 HCC HCI g0 g2 I hl78
      go_wp2
      refine bodyPost_ret (v := .tuple #[ceV ⟨va, vc, sa, sc⟩ (⟨wrap64 (o.ve + 1), insI id o.ol, o.sl⟩), .bool true]) (by simp [results, Try.results16, go_sem, e0, e1, e2, w64]) rfl ?_
      refine ⟨⟨va, vc, sa, sc⟩, by rw [HV.out] <;> rfl, ?_, HB.out _ ?_⟩
      · rw [HV.out]
        refine HFIN.out _ ?_
        (repeat' (first | with_reducible exact Sw.refl _ _ _ | with_reducible apply Sw.one | with_reducible apply Sw.two))
      · (repeat' (first | apply Below.setCell | exact Below.refl _ _)) <;> first | (simp; done) | (simp; omega)

theorem implRev_val (x : Pl) (o : Ctr) (id : Int) (w : World) (hz : o.ol.length ≤ 1048576) (hz2 : o.sl.length ≤ 1048576) (I : In w x o) (fl : Flat x) :
    Calls Try.prog 16 #[ceV x o, .int .i64 id] w fun e w' => ∃ y, e = .returned (.tuple #[ceV y (revO (revB o id) o id), .bool (revB o id)]) ∧ Copied w.heap.size w' y (revO (revB o id) o id) ∧ Below w.heap.size w w' := implRev_at x o id w hz hz2 I ⟨fl.1, Or.inr fl.2⟩

end Hn
end Go.Proofs.Ytbmfhdlbbaabgaa

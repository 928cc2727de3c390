/- Merge of both sides. -/
import Derived.Test.YtjjfleepnjhamaaCeDel
namespace Go.Proofs.Ytjjfleepnjhamaa
namespace Hn
open Go.ChangeShapes Go.WideShapes Go.ChangeAt Go.RowKit Go.Joins
open Pk (new_below join_below cell_at heap_new frozen_at lt_of kept heap_old Drawn info_of Room own_form own_below)
set_option linter.unusedSimpArgs false
set_option linter.unusedVariables false

/-- What two centres come to. -/
def merO (b : Bool) (o o2 : Ctr) : Ctr := if b = true then delO (cenB o) o o2.sl else o

set_option maxRecDepth 100000 in
set_option maxHeartbeats 8000000 in
theorem implMer_val (x : Pl) (o : Ctr) (x2 : Pl) (o2 : Ctr) (w : World) (hz : o.ol.length ≤ 1048576) (hz2 : o.sl.length ≤ 1048576) (hy : o2.ol.length ≤ 1048576) (hy2 : o2.sl.length ≤ 1048576) (hwf : Wfs o.sl) (hwl : Wfs o2.sl) (I : In w x o) (fl : Flat x) (J : In w x2 o2) (fl2 : Flat x2) :
    Calls Try.prog 31 #[ceV x o, ceV x2 o2] w fun e w' => ∃ y, e = .returned (ceV y (merO (cenB o2) o o2)) ∧ Copied w.heap.size w' y (merO (cenB o2) o o2) ∧ Below w.heap.size w w' := by
  obtain ⟨k0, k1, k2⟩ := three_blocks w (ceB x o 30) (ceB x2 o2 30) (.cells #[.int .i64 0, .slice none 0 0, .slice none 0 0] 30)
  have L : Below w.heap.size w (((w.alloc (ceB x o 30)).alloc (ceB x2 o2 30)).alloc (.cells #[.int .i64 0, .slice none 0 0, .slice none 0 0] 30)) := join_below (join_below (new_below _ _) (new_below _ _)) (new_below _ _)
  have HC : Hid (∀ W : World, In W x o → _) := fun W h => implCopy_val x o W hz hz2 h fl
  have HH : Hid (∀ W : World, In W x2 o2 → _) := fun W h => implCentre_val x2 o2 W hy hy2 h
  obtain ⟨b2, u2, hxb0⟩ := fl2.2
  have HXB : Hid (x2.b = some ⟨b2, u2, none⟩) := hxb0
  have HD : Hid (∀ (c : Nat) (W : World), In W x o → Controls W (some ⟨b2, u2, none⟩) o2.sl → _) := fun c W h k => implDel_val x o b2 u2 o2.sl c W hz hz2 hy2 hwf hwl h fl k
  clear fl fl2 hxb0 hwf hwl hz hz2 hy hy2
  go_enter Try.func31, Try.ntmps31
  go_wp2_with fail
  refine named fun V0 hV => ?_
  rw [← hV] at k0 k1 k2 L
  clear hV
  refine (HH.out _ (J.on L)).mono ?_
  rintro e v1 ⟨rfl, L1⟩
  have m0 := kept L1 (lt_of k0) k0
  have m1 := kept L1 (lt_of k1) k1
  have m2 := kept L1 (lt_of k2) k2
  have B1 := join_below L L1
  clear k0 k1 k2 L L1 HH
  have a0 : v1.cell? ⟨w.heap.size, 0, none⟩ = some (.int .i64 o.ve) := cell_at m0 0
  have a1 : v1.cell? ⟨w.heap.size, 1, none⟩ = some (.slice x.a o.ol.length x.c) := cell_at m0 1
  have a2 : v1.cell? ⟨w.heap.size, 2, none⟩ = some (.slice x.b o.sl.length x.d) := cell_at m0 2
  cases hb : cenB o2
  · have HV : Hid (cenB o2 = false) := hb
    clear hb HD
    go_wp2_with fail
    refine (HC.out _ (I.on B1)).mono ?_
    rintro e v3 ⟨y, rfl, C3, L3⟩
    have n2 := kept L3 (lt_of m2) m2
    have B3 := join_below B1 L3
    have hv : w.heap.size + 1 + 1 < v1.heap.size := lt_of m2
    clear m0 m1 m2 a0 a1 a2 B1 L3
    have e0 : v3.cell? ⟨w.heap.size + 1 + 1, 0, none⟩ = some (.int .i64 0) := cell_at n2 0
    have e1 : v3.cell? ⟨w.heap.size + 1 + 1, 1, none⟩ = some (.slice none 0 0) := cell_at n2 1
    have e2 : v3.cell? ⟨w.heap.size + 1 + 1, 2, none⟩ = some (.slice none 0 0) := cell_at n2 2
    have f0 : v3.frozen? ⟨w.heap.size + 1 + 1, 0, none⟩ = false := frozen_at n2 0
    have f1 : v3.frozen? ⟨w.heap.size + 1 + 1, 1, none⟩ = false := frozen_at n2 1
    have f2 : v3.frozen? ⟨w.heap.size + 1 + 1, 2, none⟩ = false := frozen_at n2 2
    have HFIN : Hid (∀ W, Sw (w.heap.size + 1 + 1) (w.heap.size) v3 W → Copied w.heap.size W y (merO false o o2)) := fun W s => ⟨own_lower (s.own C3.off (by omega) (by omega)) (by omega), own_lower (s.own C3.seen (by omega) (by omega)) (by omega)⟩
    have HB : Hid (∀ W, Below w.heap.size v3 W → Below w.heap.size w W) := fun W q => B3.trans q
    clear n2 B3 C3 I J hv
    go_wp2
    refine bodyPost_ret (v := ceV y o) (by simp [results, Try.results31, go_sem, e0, e1, e2]) rfl ?_
    refine ⟨y, by rw [HV.out] <;> rfl, ?_, HB.out _ ?_⟩
    · rw [HV.out]
      refine HFIN.out _ ?_
      (repeat' (first | with_reducible exact Sw.refl _ _ _ | with_reducible apply Sw.one | with_reducible apply Sw.two))
    · (repeat' (first | with_reducible exact Below.refl _ _ | apply Below.setCell)) <;> first | (simp; done) | (simp; omega)
  · have HV : Hid (cenB o2 = true) := hb
    clear hb HC
    have c2 : v1.cell? ⟨w.heap.size + 1, 2, none⟩ = some (.slice (some ⟨b2, u2, none⟩) o2.sl.length x2.d) := by rw [← HXB.out]; exact cell_at m1 2
    have J1 : Controls v1 (some ⟨b2, u2, none⟩) o2.sl := by rw [← HXB.out]; exact (J.on B1).seen
    have HX2 : Hid (_) := HXB.out
    clear HXB
    go_wp2_with fail
    refine (HD.out _ _ (I.on B1) J1).mono ?_
    rintro e v3 ⟨y, rfl, C3, L3⟩
    clear c2 J1
    have n2 := kept L3 (lt_of m2) m2
    have B3 := join_below B1 L3
    have hv : w.heap.size + 1 + 1 < v1.heap.size := lt_of m2
    clear m0 m1 m2 a0 a1 a2 B1 L3
    have e0 : v3.cell? ⟨w.heap.size + 1 + 1, 0, none⟩ = some (.int .i64 0) := cell_at n2 0
    have e1 : v3.cell? ⟨w.heap.size + 1 + 1, 1, none⟩ = some (.slice none 0 0) := cell_at n2 1
    have e2 : v3.cell? ⟨w.heap.size + 1 + 1, 2, none⟩ = some (.slice none 0 0) := cell_at n2 2
    have f0 : v3.frozen? ⟨w.heap.size + 1 + 1, 0, none⟩ = false := frozen_at n2 0
    have f1 : v3.frozen? ⟨w.heap.size + 1 + 1, 1, none⟩ = false := frozen_at n2 1
    have f2 : v3.frozen? ⟨w.heap.size + 1 + 1, 2, none⟩ = false := frozen_at n2 2
    have HFIN : Hid (∀ W, Sw (w.heap.size + 1 + 1) (w.heap.size) v3 W → Copied w.heap.size W y (merO true o o2)) := fun W s => ⟨own_lower (s.own C3.off (by omega) (by omega)) (by omega), own_lower (s.own C3.seen (by omega) (by omega)) (by omega)⟩
    have HB : Hid (∀ W, Below w.heap.size v3 W → Below w.heap.size w W) := fun W q => B3.trans q
    clear n2 B3 C3 I J hv
    have HRR : Hid ((merO true o o2) = (delO (cenB o) o o2.sl)) := rfl
    generalize (delO (cenB o) o o2.sl) = R at *
    go_wp2
    refine bodyPost_ret (v := ceV y R) (by simp [results, Try.results31, go_sem, e0, e1, e2]) rfl ?_
    refine ⟨y, by rw [HV.out]; rw [HRR.out], ?_, HB.out _ ?_⟩
    · rw [HV.out]
      refine HFIN.out _ ?_
      (repeat' (first | with_reducible exact Sw.refl _ _ _ | with_reducible apply Sw.one | with_reducible apply Sw.two))
    · (repeat' (first | with_reducible exact Below.refl _ _ | apply Below.setCell)) <;> first | (simp; done) | (simp; omega)

set_option maxRecDepth 100000 in
set_option maxHeartbeats 8000000 in
theorem specMer_val (x : Pl) (o : Ctr) (x2 : Pl) (o2 : Ctr) (w : World) (hz : o.ol.length ≤ 1048576) (hz2 : o.sl.length ≤ 1048576) (hy : o2.ol.length ≤ 1048576) (hy2 : o2.sl.length ≤ 1048576) (hwf : Wfs o.sl) (hwl : Wfs o2.sl) (I : In w x o) (fl : Flat x) (J : In w x2 o2) (fl2 : Flat x2) :
    Calls Try.prog 30 #[ceV x o, ceV x2 o2] w fun e w' => ∃ y, e = .returned (ceV y (merO (cenB o2) o o2)) ∧ Copied w.heap.size w' y (merO (cenB o2) o o2) ∧ Below w.heap.size w w' := by
  obtain ⟨k0, k1, k2⟩ := three_blocks w (ceB x o 30) (ceB x2 o2 30) (.cells #[.int .i64 0, .slice none 0 0, .slice none 0 0] 30)
  have L : Below w.heap.size w (((w.alloc (ceB x o 30)).alloc (ceB x2 o2 30)).alloc (.cells #[.int .i64 0, .slice none 0 0, .slice none 0 0] 30)) := join_below (join_below (new_below _ _) (new_below _ _)) (new_below _ _)
  have HC : Hid (∀ W : World, In W x o → _) := fun W h => specCopy_val x o W hz hz2 h fl
  have HH : Hid (∀ W : World, In W x2 o2 → _) := fun W h => specCentre_val x2 o2 W hy hy2 h
  obtain ⟨b2, u2, hxb0⟩ := fl2.2
  have HXB : Hid (x2.b = some ⟨b2, u2, none⟩) := hxb0
  have HD : Hid (∀ (c : Nat) (W : World), In W x o → Controls W (some ⟨b2, u2, none⟩) o2.sl → _) := fun c W h k => specDel_val x o (some ⟨b2, u2, none⟩) o2.sl c W hz hz2 hy2 h fl k
  clear fl fl2 hxb0 hwf hwl hz hz2 hy hy2
  go_enter Try.func30, Try.ntmps30
  go_wp2_with fail
  refine named fun V0 hV => ?_
  rw [← hV] at k0 k1 k2 L
  clear hV
  refine (HH.out _ (J.on L)).mono ?_
  rintro e v1 ⟨rfl, L1⟩
  have m0 := kept L1 (lt_of k0) k0
  have m1 := kept L1 (lt_of k1) k1
  have m2 := kept L1 (lt_of k2) k2
  have B1 := join_below L L1
  clear k0 k1 k2 L L1 HH
  have a0 : v1.cell? ⟨w.heap.size, 0, none⟩ = some (.int .i64 o.ve) := cell_at m0 0
  have a1 : v1.cell? ⟨w.heap.size, 1, none⟩ = some (.slice x.a o.ol.length x.c) := cell_at m0 1
  have a2 : v1.cell? ⟨w.heap.size, 2, none⟩ = some (.slice x.b o.sl.length x.d) := cell_at m0 2
  cases hb : cenB o2
  · have HV : Hid (cenB o2 = false) := hb
    clear hb HD
    go_wp2_with fail
    refine (HC.out _ (I.on B1)).mono ?_
    rintro e v3 ⟨y, rfl, C3, L3⟩
    have n2 := kept L3 (lt_of m2) m2
    have B3 := join_below B1 L3
    have hv : w.heap.size + 1 + 1 < v1.heap.size := lt_of m2
    clear m0 m1 m2 a0 a1 a2 B1 L3
    have e0 : v3.cell? ⟨w.heap.size + 1 + 1, 0, none⟩ = some (.int .i64 0) := cell_at n2 0
    have e1 : v3.cell? ⟨w.heap.size + 1 + 1, 1, none⟩ = some (.slice none 0 0) := cell_at n2 1
    have e2 : v3.cell? ⟨w.heap.size + 1 + 1, 2, none⟩ = some (.slice none 0 0) := cell_at n2 2
    have f0 : v3.frozen? ⟨w.heap.size + 1 + 1, 0, none⟩ = false := frozen_at n2 0
    have f1 : v3.frozen? ⟨w.heap.size + 1 + 1, 1, none⟩ = false := frozen_at n2 1
    have f2 : v3.frozen? ⟨w.heap.size + 1 + 1, 2, none⟩ = false := frozen_at n2 2
    have HFIN : Hid (∀ W, Sw (w.heap.size + 1 + 1) (w.heap.size) v3 W → Copied w.heap.size W y (merO false o o2)) := fun W s => ⟨own_lower (s.own C3.off (by omega) (by omega)) (by omega), own_lower (s.own C3.seen (by omega) (by omega)) (by omega)⟩
    have HB : Hid (∀ W, Below w.heap.size v3 W → Below w.heap.size w W) := fun W q => B3.trans q
    clear n2 B3 C3 I J hv
    go_wp2
    refine bodyPost_ret (v := ceV y o) (by simp [results, Try.results30, go_sem, e0, e1, e2]) rfl ?_
    refine ⟨y, by rw [HV.out] <;> rfl, ?_, HB.out _ ?_⟩
    · rw [HV.out]
      refine HFIN.out _ ?_
      (repeat' (first | with_reducible exact Sw.refl _ _ _ | with_reducible apply Sw.one | with_reducible apply Sw.two))
    · (repeat' (first | with_reducible exact Below.refl _ _ | apply Below.setCell)) <;> first | (simp; done) | (simp; omega)
  · have HV : Hid (cenB o2 = true) := hb
    clear hb HC
    have c2 : v1.cell? ⟨w.heap.size + 1, 2, none⟩ = some (.slice (some ⟨b2, u2, none⟩) o2.sl.length x2.d) := by rw [← HXB.out]; exact cell_at m1 2
    have J1 : Controls v1 (some ⟨b2, u2, none⟩) o2.sl := by rw [← HXB.out]; exact (J.on B1).seen
    have HX2 : Hid (_) := HXB.out
    clear HXB
    go_wp2_with fail
    refine (HD.out _ _ (I.on B1) J1).mono ?_
    rintro e v3 ⟨y, rfl, C3, L3⟩
    clear c2 J1
    have n2 := kept L3 (lt_of m2) m2
    have B3 := join_below B1 L3
    have hv : w.heap.size + 1 + 1 < v1.heap.size := lt_of m2
    clear m0 m1 m2 a0 a1 a2 B1 L3
    have e0 : v3.cell? ⟨w.heap.size + 1 + 1, 0, none⟩ = some (.int .i64 0) := cell_at n2 0
    have e1 : v3.cell? ⟨w.heap.size + 1 + 1, 1, none⟩ = some (.slice none 0 0) := cell_at n2 1
    have e2 : v3.cell? ⟨w.heap.size + 1 + 1, 2, none⟩ = some (.slice none 0 0) := cell_at n2 2
    have f0 : v3.frozen? ⟨w.heap.size + 1 + 1, 0, none⟩ = false := frozen_at n2 0
    have f1 : v3.frozen? ⟨w.heap.size + 1 + 1, 1, none⟩ = false := frozen_at n2 1
    have f2 : v3.frozen? ⟨w.heap.size + 1 + 1, 2, none⟩ = false := frozen_at n2 2
    have HFIN : Hid (∀ W, Sw (w.heap.size + 1 + 1) (w.heap.size) v3 W → Copied w.heap.size W y (merO true o o2)) := fun W s => ⟨own_lower (s.own C3.off (by omega) (by omega)) (by omega), own_lower (s.own C3.seen (by omega) (by omega)) (by omega)⟩
    have HB : Hid (∀ W, Below w.heap.size v3 W → Below w.heap.size w W) := fun W q => B3.trans q
    clear n2 B3 C3 I J hv
    have HRR : Hid ((merO true o o2) = (delO (cenB o) o o2.sl)) := rfl
    generalize (delO (cenB o) o o2.sl) = R at *
    go_wp2
    refine bodyPost_ret (v := ceV y R) (by simp [results, Try.results30, go_sem, e0, e1, e2]) rfl ?_
    refine ⟨y, by rw [HV.out]; rw [HRR.out], ?_, HB.out _ ?_⟩
    · rw [HV.out]
      refine HFIN.out _ ?_
      (repeat' (first | with_reducible exact Sw.refl _ _ _ | with_reducible apply Sw.one | with_reducible apply Sw.two))
    · (repeat' (first | with_reducible exact Below.refl _ _ | apply Below.setCell)) <;> first | (simp; done) | (simp; omega)

end Hn
end Go.Proofs.Ytjjfleepnjhamaa

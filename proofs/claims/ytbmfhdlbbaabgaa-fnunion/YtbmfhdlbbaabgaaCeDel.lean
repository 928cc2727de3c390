/- Deliver of the program. -/
import Derived.Test.YtbmfhdlbbaabgaaCeJoin
import Derived.Test.YtbmfhdlbbaabgaaCeDelS
namespace Go.Proofs.Ytbmfhdlbbaabgaa
namespace Hn
open Go.ChangeShapes Go.WideShapes Go.ChangeAt Go.RowKit Go.Joins
open Pk (new_below join_below cell_at heap_new frozen_at lt_of kept heap_old Drawn info_of Room own_form own_below)
set_option linter.unusedSimpArgs false
set_option linter.unusedVariables false

set_option maxRecDepth 100000 in
set_option maxHeartbeats 8000000 in
theorem implDel_at (x : Pl) (o : Ctr) (la : Option Addr) (l : List Ct) (cap : Nat) (w : World) (hz : o.ol.length ≤ 1048576) (hz2 : o.sl.length ≤ 1048576) (hz3 : l.length ≤ 1048576) (hwf : Wfs o.sl) (hwl : Wfs l) (I : In w x o) (fl : Fl x o) (fa : At la l.length cap) (J : Controls w la l) :
    Calls Try.prog 11 #[ceV x o, .slice la l.length cap] w fun e w' => ∃ y, e = .returned (ceV y (delO (cenB o) o l)) ∧ Copied w.heap.size w' y (delO (cenB o) o l) ∧ Below w.heap.size w w' := by
  obtain ⟨k0, k1, hs⟩ := two_blocks w (ceB x o 27) (.cells #[.int .i64 0, .slice none 0 0, .slice none 0 0] 27)
  have L : Below w.heap.size w ((w.alloc (ceB x o 27)).alloc (.cells #[.int .i64 0, .slice none 0 0, .slice none 0 0] 27)) := join_below (new_below _ _) (new_below _ _)
  have HC : Hid (∀ W : World, In W x o → _) := fun W h => implCopy_at x o W hz hz2 h fl
  have HH : Hid (∀ W : World, In W x o → _) := fun W h => implCentre_val x o W hz hz2 h
  have HFB : Hid (At x.b o.sl.length x.d) := fl.2
  have HFA : Hid (At la l.length cap) := fa
  clear fl fa
  go_enter Try.func11, Try.ntmps11
  go_wp2_with fail
  refine named fun V0 hV => ?_
  rw [← hV] at k0 k1 L hs
  clear hV
  refine (HC.out _ (I.on L)).mono ?_
  rintro e v1 ⟨y, rfl, C1, L1⟩
  have n0 := kept L1 (lt_of k0) k0
  have n1 := kept L1 (lt_of k1) k1
  have B1 := join_below L L1
  have hg : w.heap.size + 1 + 1 ≤ V0.heap.size := Nat.le_of_eq hs.symm
  have hl1 : V0.heap.size ≤ v1.heap.size := L1.size
  have NQ := new_below v1 (ceB y o 27)
  have q2 := heap_new v1 (ceB y o 27)
  have q0 := heap_old n0 (ceB y o 27)
  have q1 := heap_old n1 (ceB y o 27)
  have B2 := join_below B1 NQ
  have C2 : Copied V0.heap.size (v1.alloc (ceB y o 27)) y o := C1.on NQ
  clear k0 k1 L L1 hs n0 n1 C1
  have a0 : (v1.alloc (ceB y o 27)).cell? ⟨w.heap.size, 0, none⟩ = some (.int .i64 o.ve) := cell_at q0 0
  have a1 : (v1.alloc (ceB y o 27)).cell? ⟨w.heap.size, 1, none⟩ = some (.slice x.a o.ol.length x.c) := cell_at q0 1
  have a2 : (v1.alloc (ceB y o 27)).cell? ⟨w.heap.size, 2, none⟩ = some (.slice x.b o.sl.length x.d) := cell_at q0 2
  go_wp2_with fail
  refine named fun V1 hV => ?_
  rw [← hV] at q0 q1 q2 B2 NQ C2
  clear hV a0 a1 a2
  refine (HH.out _ (I.on B2)).mono ?_
  rintro e v3 ⟨rfl, L3⟩
  have m0 := kept L3 (lt_of q0) q0
  have m1 := kept L3 (lt_of q1) q1
  have m2 := kept L3 (lt_of q2) q2
  have B3 := join_below B2 L3
  have C3 := C2.on L3
  have hlt3 := lt_of m2
  generalize v1.heap.size = Q at *
  clear q0 q1 q2 B1 B2 NQ HC HH L3 C2
  cases hb : cenB o
  · have HV : Hid (cenB o = false) := hb
    clear hb
    have e0 : v3.cell? ⟨w.heap.size + 1, 0, none⟩ = some (.int .i64 0) := cell_at m1 0
    have e1 : v3.cell? ⟨w.heap.size + 1, 1, none⟩ = some (.slice none 0 0) := cell_at m1 1
    have e2 : v3.cell? ⟨w.heap.size + 1, 2, none⟩ = some (.slice none 0 0) := cell_at m1 2
    have f0 : v3.frozen? ⟨w.heap.size + 1, 0, none⟩ = false := frozen_at m1 0
    have f1 : v3.frozen? ⟨w.heap.size + 1, 1, none⟩ = false := frozen_at m1 1
    have f2 : v3.frozen? ⟨w.heap.size + 1, 2, none⟩ = false := frozen_at m1 2
    have g0 : v3.cell? ⟨Q, 0, none⟩ = some (.int .i64 o.ve) := cell_at m2 0
    have g1 : v3.cell? ⟨Q, 1, none⟩ = some (.slice y.a o.ol.length y.c) := cell_at m2 1
    have g2 : v3.cell? ⟨Q, 2, none⟩ = some (.slice y.b o.sl.length y.d) := cell_at m2 2
    have HFIN : Hid (∀ W, Sw (w.heap.size + 1) (w.heap.size) v3 W → Copied w.heap.size W y (delO false o l)) := fun W s => ⟨own_lower (s.own C3.off (by omega) (by omega)) (by omega), own_lower (s.own C3.seen (by omega) (by omega)) (by omega)⟩
    have HB : Hid (∀ W, Below w.heap.size v3 W → Below w.heap.size w W) := fun W q => B3.trans q
    have HL : Hid (w.heap.size + 1 + 1 ≤ Q) := by show _ ≤ _; omega
    clear m0 m1 m2 C3 B3 hg hl1 hlt3 I J hwf hwl
    go_wp2
    refine bodyPost_ret (v := ceV y (o)) (by simp [results, Try.results11, go_sem, e0, e1, e2]) rfl ?_
    refine ⟨y, by rw [HV.out] <;> rfl, ?_, HB.out _ ?_⟩
    · rw [HV.out]
      refine HFIN.out _ ?_
      (repeat' (first | with_reducible exact Sw.refl _ _ _ | with_reducible apply Sw.one | with_reducible apply Sw.two))
    · (repeat' (first | apply Below.setCell | exact Below.refl _ _)) <;> first | (simp; done) | (have := HL.out; simp; omega)
  have HV : Hid (cenB o = true) := hb
  obtain ⟨h600, hasc⟩ := cen_ctls hb
  clear hb
  have HDJ : Hid (delF [] (o.sl ++ l) (o.sl ++ l).length = delF o.sl l l.length) := del_join hasc h600
  have HWA : Hid (Wfs (o.sl ++ l)) := fun q hq => (List.mem_append.1 hq).elim (hwf q) (hwl q)
  have NJ := new_below v3 (.cells #[.slice x.b o.sl.length x.d, .slice la l.length cap] 25)
  have j3 := heap_new v3 (.cells #[.slice x.b o.sl.length x.d, .slice la l.length cap] 25)
  have B4 := join_below B3 NJ
  have I4 : Controls (v3.alloc (.cells #[.slice x.b o.sl.length x.d, .slice la l.length cap] 25)) x.b o.sl := by
    exact (I.on B4).seen
  have HJV := implJoin_at v3.heap.size x.b x.d la cap o.sl l (v3.alloc (.cells #[.slice x.b o.sl.length x.d, .slice la l.length cap] 25)) hz2 hz3 j3 I4 (J.on B4) HFB.out HFA.out
  have s1 := kept NJ (lt_of m1) m1
  have s2 := kept NJ (lt_of m2) m2
  have C4 := C3.on NJ
  have a2 : v3.cell? ⟨w.heap.size, 2, none⟩ = some (.slice x.b o.sl.length x.d) := cell_at m0 2
  clear m0 m1 m2 C3 B3 NJ I4 I J j3 hasc hwf hwl
  go_wp2_with fail
  refine HJV.mono ?_
  rintro e v5 ⟨vj, rfl, O5, L5⟩
  clear HJV a2
  generalize v3.alloc (.cells #[.slice x.b o.sl.length x.d, .slice la l.length cap] 25) = V4 at *
  have hLl : (o.sl ++ l).length ≤ 4194304 := by rw [List.length_append]; omega
  generalize o.sl ++ l = LL at *
  obtain ⟨ja, jc, rfl, IJ⟩ := own_ctls O5
  have HEV := implEach_val ja LL jc v5 hLl HWA.out IJ
  rw [HDJ.out] at HEV
  have r1 := kept L5 (lt_of s1) s1
  have r2 := kept L5 (lt_of s2) s2
  have B5 := join_below B4 L5
  have C5 := C4.on L5
  clear s1 s2 B4 L5 C4 O5 IJ HWA HDJ
  go_wp2_with fail
  refine HEV.mono ?_
  rintro e v6 ⟨ve, rfl, O6, L6⟩
  clear HEV
  obtain ⟨sa, sc, rfl, -⟩ := own_form O6
  have m1 := kept L6 (lt_of r1) r1
  have m2 := kept L6 (lt_of r2) r2
  have B6 := join_below B5 L6
  have C6 := C5.on L6
  have hl6 : w.heap.size + 1 < v5.heap.size := lt_of r1
  clear r1 r2 B5 C5 L6
  have z2 : v6.cell? ⟨Q, 2, none⟩ = some (.slice y.b o.sl.length y.d) := cell_at m2 2
  have y2 : v6.frozen? ⟨Q, 2, none⟩ = false := frozen_at m2 2
  have n2 : (v6.setCell ⟨Q, 2, none⟩ (.slice sa (delF o.sl l l.length).length sc)).heap[Q]? = some (.cells #[.int .i64 o.ve, .slice y.a o.ol.length y.c, .slice sa (delF o.sl l l.length).length sc] 27) := h_set (i := 2) m2 _
  have n1 : (v6.setCell ⟨Q, 2, none⟩ (.slice sa (delF o.sl l l.length).length sc)).heap[w.heap.size + 1]? = some (.cells #[.int .i64 0, .slice none 0 0, .slice none 0 0] 27) := h_other (i := 2) m1 (by omega) _
  have B7 : Below w.heap.size w (v6.setCell ⟨Q, 2, none⟩ (.slice sa (delF o.sl l l.length).length sc)) := B6.setCell (p := ⟨Q, 2, none⟩) (by show _ ≤ Q; omega) _
  have OO := own_typed (i := 2) (u := .slice sa (delF o.sl l l.length).length sc) C6.off m2 (by decide)
  have OS := own_typed (i := 2) (u := .slice sa (delF o.sl l l.length).length sc) O6 m2 (by decide)
  have e0 : (v6.setCell ⟨Q, 2, none⟩ (.slice sa (delF o.sl l l.length).length sc)).cell? ⟨w.heap.size + 1, 0, none⟩ = some (.int .i64 0) := cell_at n1 0
  have e1 : (v6.setCell ⟨Q, 2, none⟩ (.slice sa (delF o.sl l l.length).length sc)).cell? ⟨w.heap.size + 1, 1, none⟩ = some (.slice none 0 0) := cell_at n1 1
  have e2 : (v6.setCell ⟨Q, 2, none⟩ (.slice sa (delF o.sl l l.length).length sc)).cell? ⟨w.heap.size + 1, 2, none⟩ = some (.slice none 0 0) := cell_at n1 2
  have f0 : (v6.setCell ⟨Q, 2, none⟩ (.slice sa (delF o.sl l l.length).length sc)).frozen? ⟨w.heap.size + 1, 0, none⟩ = false := frozen_at n1 0
  have f1 : (v6.setCell ⟨Q, 2, none⟩ (.slice sa (delF o.sl l l.length).length sc)).frozen? ⟨w.heap.size + 1, 1, none⟩ = false := frozen_at n1 1
  have f2 : (v6.setCell ⟨Q, 2, none⟩ (.slice sa (delF o.sl l l.length).length sc)).frozen? ⟨w.heap.size + 1, 2, none⟩ = false := frozen_at n1 2
  have g0 : (v6.setCell ⟨Q, 2, none⟩ (.slice sa (delF o.sl l l.length).length sc)).cell? ⟨Q, 0, none⟩ = some (.int .i64 o.ve) := cell_at n2 0
  have g1 : (v6.setCell ⟨Q, 2, none⟩ (.slice sa (delF o.sl l l.length).length sc)).cell? ⟨Q, 1, none⟩ = some (.slice y.a o.ol.length y.c) := cell_at n2 1
  have g2 : (v6.setCell ⟨Q, 2, none⟩ (.slice sa (delF o.sl l l.length).length sc)).cell? ⟨Q, 2, none⟩ = some (.slice sa (delF o.sl l l.length).length sc) := cell_at n2 2
  have HFIN : Hid (∀ W, Sw (w.heap.size + 1) (w.heap.size) (v6.setCell ⟨Q, 2, none⟩ (.slice sa (delF o.sl l l.length).length sc)) W → Copied w.heap.size W ⟨y.a, y.c, sa, sc⟩ (delO true o l)) := fun W s => ⟨own_lower (s.own OO (by omega) (by omega)) (by omega), own_lower (s.own OS (by omega) (by omega)) (by omega)⟩
  have HB : Hid (∀ W, Below w.heap.size (v6.setCell ⟨Q, 2, none⟩ (.slice sa (delF o.sl l l.length).length sc)) W → Below w.heap.size w W) := fun W q => B7.trans q
  have HL : Hid (w.heap.size + 1 + 1 ≤ Q) := by show _ ≤ _; omega
  clear m1 m2 n1 n2 B6 B7 OO OS C6 O6 hg hl1 hlt3 hl6
  go_wp2
  refine bodyPost_ret (v := ceV ⟨y.a, y.c, sa, sc⟩ (⟨o.ve, o.ol, delF o.sl l l.length⟩)) (by simp [results, Try.results11, go_sem, e0, e1, e2]) rfl ?_
  refine ⟨⟨y.a, y.c, sa, sc⟩, by rw [HV.out] <;> rfl, ?_, HB.out _ ?_⟩
  · rw [HV.out]
    refine HFIN.out _ ?_
    (repeat' (first | with_reducible exact Sw.refl _ _ _ | with_reducible apply Sw.one | with_reducible apply Sw.two))
  · (repeat' (first | with_reducible exact Below.refl _ _ | apply Below.setCell)) <;> first | (simp; done) | (have := HL.out; simp; omega)

theorem implDel_val (x : Pl) (o : Ctr) (b2 u2 : Nat) (l : List Ct) (cap : Nat) (w : World) (hz : o.ol.length ≤ 1048576) (hz2 : o.sl.length ≤ 1048576) (hz3 : l.length ≤ 1048576) (hwf : Wfs o.sl) (hwl : Wfs l) (I : In w x o) (fl : Flat x) (J : Controls w (some ⟨b2, u2, none⟩) l) :
    Calls Try.prog 11 #[ceV x o, .slice (some ⟨b2, u2, none⟩) l.length cap] w fun e w' => ∃ y, e = .returned (ceV y (delO (cenB o) o l)) ∧ Copied w.heap.size w' y (delO (cenB o) o l) ∧ Below w.heap.size w w' := implDel_at x o _ l cap w hz hz2 hz3 hwf hwl I fl.fl (Or.inr ⟨b2, u2, rfl⟩) J

end Hn
end Go.Proofs.Ytbmfhdlbbaabgaa

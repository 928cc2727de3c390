/- Texts laid into one, in their order: CeJoin, CeDel, CeMer, CeLawR. -/
import Derived.Test.YtbmfhdlbbaabgaaCeEach
import Derived.Laws.AppendOwnNone
import Derived.Test.YtbmfhdlbbaabgaaCeDelS
import Derived.Test.YtbmfhdlbbaabgaaCurCe4
import Derived.Test.YtbmfhdlbbaabgaaCeSame
import Derived.Test.YtbmfhdlbbaabgaaCeRev
import Derived.Test.YtbmfhdlbbaabgaaCeDblI
import Derived.Test.YtbmfhdlbbaabgaaCeDblS
import Derived.Test.YtbmfhdlbbaabgaaCeMiss
import Derived.Test.YtbmfhdlbbaabgaaCeMissS
import Derived.Test.YtbmfhdlbbaabgaaCurNum
import Derived.Deep.RegionHeld3
/- Lists joined, of the program: the two of a delivery. -/
namespace Go.Proofs.Ytbmfhdlbbaabgaa
namespace Hn
open Go.ChangeShapes Go.WideShapes Go.ChangeAt Go.RowKit Go.Joins
open Pk (new_below join_below cell_at heap_new frozen_at lt_of kept heap_old Drawn info_of Room own_form own_below)
set_option linter.unusedSimpArgs false
set_option linter.unusedVariables false

/-- What is joined of the first lists. -/
def jn (l m : List Ct) : Nat → List Ct
  | 0 => []
  | 1 => l
  | _ => l ++ m

set_option maxRecDepth 100000 in
set_option maxHeartbeats 4000000 in
theorem implJoin_at (g : Nat) (a1 : Option Addr) (c1 : Nat) (a2 : Option Addr) (c2 : Nat) (l m : List Ct) (w : World) (hz : l.length ≤ 1048576) (hz2 : m.length ≤ 1048576) (h0 : w.heap[g]? = some (.cells #[.slice a1 l.length c1, .slice a2 m.length c2] 25)) (I : Controls w a1 l) (J : Controls w a2 m) (f1 : At a1 l.length c1) (f2 : At a2 m.length c2) :
    Calls Try.prog 37 #[.slice (some ⟨g, 0, none⟩) 2 2] w fun e w' => ∃ v, e = .returned v ∧ w'.ownsRow w.heap.size 37 6 v (l ++ m).length (ccells (l ++ m)) ∧ Below w.heap.size w w' := by
  obtain ⟨i0, hi, hy0, hy1, hy2⟩ := info_of info_control
  go_enter Try.func37, Try.ntmps37
  go_wp2
  go_loopw [3, 8] (fun v i wr => ∃ k : Nat, k ≤ 2 ∧ i = .int .i64 k ∧ Below w.heap.size w wr ∧ Hid (wr.ownsRow w.heap.size 37 6 v (jn l m k).length (ccells (jn l m k)))) (fun _ i _ => 2 - (intOf i).toNat)
  case atStart => exact ⟨0, by omega, rfl, Below.refl _ _, none_row _ _ _ _⟩
  case round =>
    obtain ⟨k, hk, rfl, LR, HO⟩ := hrel
    have k0 := kept LR (lt_of h0) h0
    have O1 := HO.out
    clear HO
    match k, hk with
    | 0, _ =>
      rcases f1 with ⟨rfl, hl0, rfl⟩ | ⟨b1, u1, rfl⟩
      · obtain rfl := List.length_eq_zero_iff.1 hl0
        have g0 : wr.cell? ⟨g, 0, none⟩ = some (.slice none 0 0) := cell_at k0 0
        have O2 : wr.ownsRow w.heap.size 37 6 _ 0 [] := O1
        obtain ⟨va, vc, rfl, -⟩ := own_form O2
        clear O1 k0
        go_wp2_with (at_builtin; refine wpList_append_own_none rfl _ _ 25 rfl w.heap.size 37 i0 6 Try.underlying25 hi _ _ _ rfl O2 rfl ?_)
        have HO6 : Hid (wr.ownsRow w.heap.size 37 6 (.slice va 0 vc) (jn [] m 1).length (ccells (jn [] m 1))) := by
          show wr.ownsRow _ _ _ _ _ _
          simpa [jn, ccells_nil] using O2
        clear O2 g0
        go_wp2
        go_roundw
        case rel => exact ⟨1, by omega, by go_num, LR, by simpa [jn, ccells_nil] using HO6⟩
        case measure => simp [intOf]
      have g0 : wr.cell? ⟨g, 0, none⟩ = some (.slice (some ⟨b1, u1, none⟩) l.length c1) := cell_at k0 0
      have HG : Hid (∀ j u, (ccells l)[j]? = some u → wr.cell? (Addr.add ⟨b1, u1, none⟩ j) = some u) := ctls_get (I.on LR)
      have O2 : wr.ownsRow w.heap.size 37 6 _ 0 [] := O1
      obtain ⟨va, vc, rfl, -⟩ := own_form O2
      clear O1 k0
      go_wp2_with (at_builtin; refine wpList_append_own_at _ rfl _ _ 25 rfl w.heap.size 37 i0 (lgV ⟨0, 0, 0, 0, 0, 0⟩) 6 48 Try.underlying25 hi hy0 hy1 hy2 rfl (by decide) _ _ _ rfl O2 ⟨b1, u1, none⟩ l.length c1 (ccells l) rfl (ccells_length l) HG.out (ccells_one l) ?c3 ?c4 ?c5 ?_)
      case c3 => unfold maxLen; omega
      case c4 => omega
      case c5 => exact LR.size
      intro v' w6 O6 G6 _ _
      have L6 : Below w.heap.size w w6 := LR.grown G6 LR.size (fun j hj => (O2.lt j hj).1)
      have HO6 : Hid (w6.ownsRow w.heap.size 37 6 v' (jn l m 1).length (ccells (jn l m 1))) := by
        show w6.ownsRow _ _ _ _ _ _
        simpa [jn] using O6
      clear O2 O6 G6 g0 HG
      go_wp2
      go_roundw
      case rel => exact ⟨1, by omega, by go_num, L6, HO6⟩
      case measure => simp [intOf]
    | 1, _ =>
      rcases f2 with ⟨rfl, hl0, rfl⟩ | ⟨b2, u2, rfl⟩
      · obtain rfl := List.length_eq_zero_iff.1 hl0
        have g0 : wr.cell? ⟨g, 1, none⟩ = some (.slice none 0 0) := cell_at k0 1
        have O2 : wr.ownsRow w.heap.size 37 6 _ l.length (ccells l) := O1
        obtain ⟨va, vc, rfl, -⟩ := own_form O2
        clear O1 k0
        go_wp2_with (at_builtin; refine wpList_append_own_none rfl _ _ 25 rfl w.heap.size 37 i0 6 Try.underlying25 hi _ _ _ rfl O2 rfl ?_)
        have HO6 : Hid (wr.ownsRow w.heap.size 37 6 (.slice va l.length vc) (jn l [] 2).length (ccells (jn l [] 2))) := by
          show wr.ownsRow _ _ _ _ _ _
          simpa [jn, ccells_nil] using O2
        clear O2 g0
        go_wp2
        go_roundw
        case rel => exact ⟨2, by omega, by go_num, LR, by simpa [jn, ccells_nil] using HO6⟩
        case measure => simp [intOf]
      have g0 : wr.cell? ⟨g, 1, none⟩ = some (.slice (some ⟨b2, u2, none⟩) m.length c2) := cell_at k0 1
      have HG : Hid (∀ j u, (ccells m)[j]? = some u → wr.cell? (Addr.add ⟨b2, u2, none⟩ j) = some u) := ctls_get (J.on LR)
      have O2 : wr.ownsRow w.heap.size 37 6 _ l.length (ccells l) := O1
      obtain ⟨va, vc, rfl, -⟩ := own_form O2
      clear O1 k0
      go_wp2_with (at_builtin; refine wpList_append_own_at _ rfl _ _ 25 rfl w.heap.size 37 i0 (lgV ⟨0, 0, 0, 0, 0, 0⟩) 6 48 Try.underlying25 hi hy0 hy1 hy2 rfl (by decide) _ _ _ rfl O2 ⟨b2, u2, none⟩ m.length c2 (ccells m) rfl (ccells_length m) HG.out (ccells_one m) ?c3 ?c4 ?c5 ?_)
      case c3 => unfold maxLen; omega
      case c4 => omega
      case c5 => exact LR.size
      intro v' w6 O6 G6 _ _
      have L6 : Below w.heap.size w w6 := LR.grown G6 LR.size (fun j hj => (O2.lt j hj).1)
      have HO6 : Hid (w6.ownsRow w.heap.size 37 6 v' (jn l m 2).length (ccells (jn l m 2))) := by
        show w6.ownsRow _ _ _ _ _ _
        rw [ccells_append] at O6
        simpa [jn] using O6
      clear O2 O6 G6 g0 HG
      go_wp2
      go_roundw
      case rel => exact ⟨2, by omega, by go_num, L6, HO6⟩
      case measure => simp [intOf]
    | 2, _ =>
      have O2 : wr.ownsRow w.heap.size 37 6 _ (l ++ m).length (ccells (l ++ m)) := O1
      obtain ⟨va, vc, rfl, -⟩ := own_form O2
      have HO2 : Hid (_) := O2
      clear O1 O2 k0
      go_wp2
      go_ret
      exact ⟨_, rfl, HO2.out, LR⟩

end Hn
end Go.Proofs.Ytbmfhdlbbaabgaa

/- Deliver of the program. -/
namespace Go.Proofs.Ytbmfhdlbbaabgaa
namespace Hn
open Go.ChangeShapes Go.WideShapes Go.ChangeAt Go.RowKit Go.Joins
open Pk (new_below join_below cell_at heap_new frozen_at lt_of kept heap_old Drawn info_of Room own_form own_below)
set_option linter.unusedSimpArgs false
set_option linter.unusedVariables false

set_option maxRecDepth 100000 in
set_option maxHeartbeats 8000000 in
theorem implDel_at (x : Pl) (o : Ctr) (la : Option Addr) (l : List Ct) (cap : Nat) (w : World) (hz : o.ol.length ≤ 1048576) (hz2 : o.sl.length ≤ 1048576) (hz3 : l.length ≤ 1048576) (hwf : Wfs o.sl) (hwl : Wfs l) (I : In w x o) (fl : Fl x o) (fa : At la l.length cap) (J : Controls w la l) :
    Calls Try.prog 11 #[ceV x o, .slice la l.length cap] w fun e w' => ∃ y, e = .returned (ceV y (delO (cenB o) o l)) ∧ Copied w.heap.size w' y (delO (cenB o) o l) ∧ Below w.heap.size w w' := by
  obtain ⟨k0, k1, hs⟩ := two_blocks w (ceB x o 27) (.cells #[.int .i64 0, .slice none 0 0, .slice none 0 0] 27)
  have L : Below w.heap.size w ((w.alloc (ceB x o 27)).alloc (.cells #[.int .i64 0, .slice none 0 0, .slice none 0 0] 27)) := join_below (new_below _ _) (new_below _ _)
  have HC : Hid (∀ W : World, In W x o → _) := fun W h => implCopy_at x o W hz hz2 h fl
  have HH : Hid (∀ W : World, In W x o → _) := fun W h => implCentre_val x o W hz hz2 h
  have HFB : Hid (At x.b o.sl.length x.d) := fl.2
  have HFA : Hid (At la l.length cap) := fa
  clear fl fa
  go_enter Try.func11, Try.ntmps11
  go_wp2_with fail
  refine named fun V0 hV => ?_
  rw [← hV] at k0 k1 L hs
  clear hV
  refine (HC.out _ (I.on L)).mono ?_
  rintro e v1 ⟨y, rfl, C1, L1⟩
  have n0 := kept L1 (lt_of k0) k0
  have n1 := kept L1 (lt_of k1) k1
  have B1 := join_below L L1
  have hg : w.heap.size + 1 + 1 ≤ V0.heap.size := Nat.le_of_eq hs.symm
  have hl1 : V0.heap.size ≤ v1.heap.size := L1.size
  have NQ := new_below v1 (ceB y o 27)
  have q2 := heap_new v1 (ceB y o 27)
  have q0 := heap_old n0 (ceB y o 27)
  have q1 := heap_old n1 (ceB y o 27)
  have B2 := join_below B1 NQ
  have C2 : Copied V0.heap.size (v1.alloc (ceB y o 27)) y o := C1.on NQ
  clear k0 k1 L L1 hs n0 n1 C1
  have a0 : (v1.alloc (ceB y o 27)).cell? ⟨w.heap.size, 0, none⟩ = some (.int .i64 o.ve) := cell_at q0 0
  have a1 : (v1.alloc (ceB y o 27)).cell? ⟨w.heap.size, 1, none⟩ = some (.slice x.a o.ol.length x.c) := cell_at q0 1
  have a2 : (v1.alloc (ceB y o 27)).cell? ⟨w.heap.size, 2, none⟩ = some (.slice x.b o.sl.length x.d) := cell_at q0 2
  go_wp2_with fail
  refine named fun V1 hV => ?_
  rw [← hV] at q0 q1 q2 B2 NQ C2
  clear hV a0 a1 a2
  refine (HH.out _ (I.on B2)).mono ?_
  rintro e v3 ⟨rfl, L3⟩
  have m0 := kept L3 (lt_of q0) q0
  have m1 := kept L3 (lt_of q1) q1
  have m2 := kept L3 (lt_of q2) q2
  have B3 := join_below B2 L3
  have C3 := C2.on L3
  have hlt3 := lt_of m2
  generalize v1.heap.size = Q at *
  clear q0 q1 q2 B1 B2 NQ HC HH L3 C2
  cases hb : cenB o
  · have HV : Hid (cenB o = false) := hb
    clear hb
    have e0 : v3.cell? ⟨w.heap.size + 1, 0, none⟩ = some (.int .i64 0) := cell_at m1 0
    have e1 : v3.cell? ⟨w.heap.size + 1, 1, none⟩ = some (.slice none 0 0) := cell_at m1 1
    have e2 : v3.cell? ⟨w.heap.size + 1, 2, none⟩ = some (.slice none 0 0) := cell_at m1 2
    have f0 : v3.frozen? ⟨w.heap.size + 1, 0, none⟩ = false := frozen_at m1 0
    have f1 : v3.frozen? ⟨w.heap.size + 1, 1, none⟩ = false := frozen_at m1 1
    have f2 : v3.frozen? ⟨w.heap.size + 1, 2, none⟩ = false := frozen_at m1 2
    have g0 : v3.cell? ⟨Q, 0, none⟩ = some (.int .i64 o.ve) := cell_at m2 0
    have g1 : v3.cell? ⟨Q, 1, none⟩ = some (.slice y.a o.ol.length y.c) := cell_at m2 1
    have g2 : v3.cell? ⟨Q, 2, none⟩ = some (.slice y.b o.sl.length y.d) := cell_at m2 2
    have HFIN : Hid (∀ W, Sw (w.heap.size + 1) (w.heap.size) v3 W → Copied w.heap.size W y (delO false o l)) := fun W s => ⟨own_lower (s.own C3.off (by omega) (by omega)) (by omega), own_lower (s.own C3.seen (by omega) (by omega)) (by omega)⟩
    have HB : Hid (∀ W, Below w.heap.size v3 W → Below w.heap.size w W) := fun W q => B3.trans q
    have HL : Hid (w.heap.size + 1 + 1 ≤ Q) := by show _ ≤ _; omega
    clear m0 m1 m2 C3 B3 hg hl1 hlt3 I J hwf hwl
    go_wp2
    refine bodyPost_ret (v := ceV y (o)) (by simp [results, Try.results11, go_sem, e0, e1, e2]) rfl ?_
    refine ⟨y, by rw [HV.out] <;> rfl, ?_, HB.out _ ?_⟩
    · rw [HV.out]
      refine HFIN.out _ ?_
      (repeat' (first | with_reducible exact Sw.refl _ _ _ | with_reducible apply Sw.one | with_reducible apply Sw.two))
    · (repeat' (first | apply Below.setCell | exact Below.refl _ _)) <;> first | (simp; done) | (have := HL.out; simp; omega)
  have HV : Hid (cenB o = true) := hb
  obtain ⟨h600, hasc⟩ := cen_ctls hb
  clear hb
  have HDJ : Hid (delF [] (o.sl ++ l) (o.sl ++ l).length = delF o.sl l l.length) := del_join hasc h600
  have HWA : Hid (Wfs (o.sl ++ l)) := fun q hq => (List.mem_append.1 hq).elim (hwf q) (hwl q)
  have NJ := new_below v3 (.cells #[.slice x.b o.sl.length x.d, .slice la l.length cap] 25)
  have j3 := heap_new v3 (.cells #[.slice x.b o.sl.length x.d, .slice la l.length cap] 25)
  have B4 := join_below B3 NJ
  have I4 : Controls (v3.alloc (.cells #[.slice x.b o.sl.length x.d, .slice la l.length cap] 25)) x.b o.sl := by
    exact (I.on B4).seen
  have HJV := implJoin_at v3.heap.size x.b x.d la cap o.sl l (v3.alloc (.cells #[.slice x.b o.sl.length x.d, .slice la l.length cap] 25)) hz2 hz3 j3 I4 (J.on B4) HFB.out HFA.out
  have s1 := kept NJ (lt_of m1) m1
  have s2 := kept NJ (lt_of m2) m2
  have C4 := C3.on NJ
  have a2 : v3.cell? ⟨w.heap.size, 2, none⟩ = some (.slice x.b o.sl.length x.d) := cell_at m0 2
  clear m0 m1 m2 C3 B3 NJ I4 I J j3 hasc hwf hwl
  go_wp2_with fail
  refine HJV.mono ?_
  rintro e v5 ⟨vj, rfl, O5, L5⟩
  clear HJV a2
  generalize v3.alloc (.cells #[.slice x.b o.sl.length x.d, .slice la l.length cap] 25) = V4 at *
  have hLl : (o.sl ++ l).length ≤ 4194304 := by rw [List.length_append]; omega
  generalize o.sl ++ l = LL at *
  obtain ⟨ja, jc, rfl, IJ⟩ := own_ctls O5
  have HEV := implEach_val ja LL jc v5 hLl HWA.out IJ
  rw [HDJ.out] at HEV
  have r1 := kept L5 (lt_of s1) s1
  have r2 := kept L5 (lt_of s2) s2
  have B5 := join_below B4 L5
  have C5 := C4.on L5
  clear s1 s2 B4 L5 C4 O5 IJ HWA HDJ
  go_wp2_with fail
  refine HEV.mono ?_
  rintro e v6 ⟨ve, rfl, O6, L6⟩
  clear HEV
  obtain ⟨sa, sc, rfl, -⟩ := own_form O6
  have m1 := kept L6 (lt_of r1) r1
  have m2 := kept L6 (lt_of r2) r2
  have B6 := join_below B5 L6
  have C6 := C5.on L6
  have hl6 : w.heap.size + 1 < v5.heap.size := lt_of r1
  clear r1 r2 B5 C5 L6
  have z2 : v6.cell? ⟨Q, 2, none⟩ = some (.slice y.b o.sl.length y.d) := cell_at m2 2
  have y2 : v6.frozen? ⟨Q, 2, none⟩ = false := frozen_at m2 2
  have n2 : (v6.setCell ⟨Q, 2, none⟩ (.slice sa (delF o.sl l l.length).length sc)).heap[Q]? = some (.cells #[.int .i64 o.ve, .slice y.a o.ol.length y.c, .slice sa (delF o.sl l l.length).length sc] 27) := h_set (i := 2) m2 _
  have n1 : (v6.setCell ⟨Q, 2, none⟩ (.slice sa (delF o.sl l l.length).length sc)).heap[w.heap.size + 1]? = some (.cells #[.int .i64 0, .slice none 0 0, .slice none 0 0] 27) := h_other (i := 2) m1 (by omega) _
  have B7 : Below w.heap.size w (v6.setCell ⟨Q, 2, none⟩ (.slice sa (delF o.sl l l.length).length sc)) := B6.setCell (p := ⟨Q, 2, none⟩) (by show _ ≤ Q; omega) _
  have OO := own_typed (i := 2) (u := .slice sa (delF o.sl l l.length).length sc) C6.off m2 (by decide)
  have OS := own_typed (i := 2) (u := .slice sa (delF o.sl l l.length).length sc) O6 m2 (by decide)
  have e0 : (v6.setCell ⟨Q, 2, none⟩ (.slice sa (delF o.sl l l.length).length sc)).cell? ⟨w.heap.size + 1, 0, none⟩ = some (.int .i64 0) := cell_at n1 0
  have e1 : (v6.setCell ⟨Q, 2, none⟩ (.slice sa (delF o.sl l l.length).length sc)).cell? ⟨w.heap.size + 1, 1, none⟩ = some (.slice none 0 0) := cell_at n1 1
  have e2 : (v6.setCell ⟨Q, 2, none⟩ (.slice sa (delF o.sl l l.length).length sc)).cell? ⟨w.heap.size + 1, 2, none⟩ = some (.slice none 0 0) := cell_at n1 2
  have f0 : (v6.setCell ⟨Q, 2, none⟩ (.slice sa (delF o.sl l l.length).length sc)).frozen? ⟨w.heap.size + 1, 0, none⟩ = false := frozen_at n1 0
  have f1 : (v6.setCell ⟨Q, 2, none⟩ (.slice sa (delF o.sl l l.length).length sc)).frozen? ⟨w.heap.size + 1, 1, none⟩ = false := frozen_at n1 1
  have f2 : (v6.setCell ⟨Q, 2, none⟩ (.slice sa (delF o.sl l l.length).length sc)).frozen? ⟨w.heap.size + 1, 2, none⟩ = false := frozen_at n1 2
  have g0 : (v6.setCell ⟨Q, 2, none⟩ (.slice sa (delF o.sl l l.length).length sc)).cell? ⟨Q, 0, none⟩ = some (.int .i64 o.ve) := cell_at n2 0
  have g1 : (v6.setCell ⟨Q, 2, none⟩ (.slice sa (delF o.sl l l.length).length sc)).cell? ⟨Q, 1, none⟩ = some (.slice y.a o.ol.length y.c) := cell_at n2 1
  have g2 : (v6.setCell ⟨Q, 2, none⟩ (.slice sa (delF o.sl l l.length).length sc)).cell? ⟨Q, 2, none⟩ = some (.slice sa (delF o.sl l l.length).length sc) := cell_at n2 2
  have HFIN : Hid (∀ W, Sw (w.heap.size + 1) (w.heap.size) (v6.setCell ⟨Q, 2, none⟩ (.slice sa (delF o.sl l l.length).length sc)) W → Copied w.heap.size W ⟨y.a, y.c, sa, sc⟩ (delO true o l)) := fun W s => ⟨own_lower (s.own OO (by omega) (by omega)) (by omega), own_lower (s.own OS (by omega) (by omega)) (by omega)⟩
  have HB : Hid (∀ W, Below w.heap.size (v6.setCell ⟨Q, 2, none⟩ (.slice sa (delF o.sl l l.length).length sc)) W → Below w.heap.size w W) := fun W q => B7.trans q
  have HL : Hid (w.heap.size + 1 + 1 ≤ Q) := by show _ ≤ _; omega
  clear m1 m2 n1 n2 B6 B7 OO OS C6 O6 hg hl1 hlt3 hl6
  go_wp2
  refine bodyPost_ret (v := ceV ⟨y.a, y.c, sa, sc⟩ (⟨o.ve, o.ol, delF o.sl l l.length⟩)) (by simp [results, Try.results11, go_sem, e0, e1, e2]) rfl ?_
  refine ⟨⟨y.a, y.c, sa, sc⟩, by rw [HV.out] <;> rfl, ?_, HB.out _ ?_⟩
  · rw [HV.out]
    refine HFIN.out _ ?_
    (repeat' (first | with_reducible exact Sw.refl _ _ _ | with_reducible apply Sw.one | with_reducible apply Sw.two))
  · (repeat' (first | with_reducible exact Below.refl _ _ | apply Below.setCell)) <;> first | (simp; done) | (have := HL.out; simp; omega)

theorem implDel_val (x : Pl) (o : Ctr) (b2 u2 : Nat) (l : List Ct) (cap : Nat) (w : World) (hz : o.ol.length ≤ 1048576) (hz2 : o.sl.length ≤ 1048576) (hz3 : l.length ≤ 1048576) (hwf : Wfs o.sl) (hwl : Wfs l) (I : In w x o) (fl : Flat x) (J : Controls w (some ⟨b2, u2, none⟩) l) :
    Calls Try.prog 11 #[ceV x o, .slice (some ⟨b2, u2, none⟩) l.length cap] w fun e w' => ∃ y, e = .returned (ceV y (delO (cenB o) o l)) ∧ Copied w.heap.size w' y (delO (cenB o) o l) ∧ Below w.heap.size w w' := implDel_at x o _ l cap w hz hz2 hz3 hwf hwl I fl.fl (Or.inr ⟨b2, u2, rfl⟩) J

end Hn
end Go.Proofs.Ytbmfhdlbbaabgaa

/- Merge of both sides. -/
namespace Go.Proofs.Ytbmfhdlbbaabgaa
namespace Hn
open Go.ChangeShapes Go.WideShapes Go.ChangeAt Go.RowKit Go.Joins
open Pk (new_below join_below cell_at heap_new frozen_at lt_of kept heap_old Drawn info_of Room own_form own_below)
set_option linter.unusedSimpArgs false
set_option linter.unusedVariables false

/-- What two centres come to. -/
def merO (b : Bool) (o o2 : Ctr) : Ctr := if b = true then delO (cenB o) o o2.sl else o

set_option maxRecDepth 100000 in
set_option maxHeartbeats 8000000 in
theorem implMer_val (x : Pl) (o : Ctr) (x2 : Pl) (o2 : Ctr) (w : World) (hz : o.ol.length ≤ 1048576) (hz2 : o.sl.length ≤ 1048576) (hy : o2.ol.length ≤ 1048576) (hy2 : o2.sl.length ≤ 1048576) (hwf : Wfs o.sl) (hwl : Wfs o2.sl) (I : In w x o) (fl : Flat x) (J : In w x2 o2) (fl2 : Flat x2) :
    Calls Try.prog 26 #[ceV x o, ceV x2 o2] w fun e w' => ∃ y, e = .returned (ceV y (merO (cenB o2) o o2)) ∧ Copied w.heap.size w' y (merO (cenB o2) o o2) ∧ Below w.heap.size w w' := by
  obtain ⟨k0, k1, k2⟩ := three_blocks w (ceB x o 27) (ceB x2 o2 27) (.cells #[.int .i64 0, .slice none 0 0, .slice none 0 0] 27)
  have L : Below w.heap.size w (((w.alloc (ceB x o 27)).alloc (ceB x2 o2 27)).alloc (.cells #[.int .i64 0, .slice none 0 0, .slice none 0 0] 27)) := join_below (join_below (new_below _ _) (new_below _ _)) (new_below _ _)
  have HC : Hid (∀ W : World, In W x o → _) := fun W h => implCopy_val x o W hz hz2 h fl
  have HH : Hid (∀ W : World, In W x2 o2 → _) := fun W h => implCentre_val x2 o2 W hy hy2 h
  obtain ⟨b2, u2, hxb0⟩ := fl2.2
  have HXB : Hid (x2.b = some ⟨b2, u2, none⟩) := hxb0
  have HD : Hid (∀ (c : Nat) (W : World), In W x o → Controls W (some ⟨b2, u2, none⟩) o2.sl → _) := fun c W h k => implDel_val x o b2 u2 o2.sl c W hz hz2 hy2 hwf hwl h fl k
  clear fl fl2 hxb0 hwf hwl hz hz2 hy hy2
  go_enter Try.func26, Try.ntmps26
  go_wp2_with fail
  refine named fun V0 hV => ?_
  rw [← hV] at k0 k1 k2 L
  clear hV
  refine (HH.out _ (J.on L)).mono ?_
  rintro e v1 ⟨rfl, L1⟩
  have m0 := kept L1 (lt_of k0) k0
  have m1 := kept L1 (lt_of k1) k1
  have m2 := kept L1 (lt_of k2) k2
  have B1 := join_below L L1
  clear k0 k1 k2 L L1 HH
  have a0 : v1.cell? ⟨w.heap.size, 0, none⟩ = some (.int .i64 o.ve) := cell_at m0 0
  have a1 : v1.cell? ⟨w.heap.size, 1, none⟩ = some (.slice x.a o.ol.length x.c) := cell_at m0 1
  have a2 : v1.cell? ⟨w.heap.size, 2, none⟩ = some (.slice x.b o.sl.length x.d) := cell_at m0 2
  cases hb : cenB o2
  · have HV : Hid (cenB o2 = false) := hb
    clear hb HD
    go_wp2_with fail
    refine (HC.out _ (I.on B1)).mono ?_
    rintro e v3 ⟨y, rfl, C3, L3⟩
    have n2 := kept L3 (lt_of m2) m2
    have B3 := join_below B1 L3
    have hv : w.heap.size + 1 + 1 < v1.heap.size := lt_of m2
    clear m0 m1 m2 a0 a1 a2 B1 L3
    have e0 : v3.cell? ⟨w.heap.size + 1 + 1, 0, none⟩ = some (.int .i64 0) := cell_at n2 0
    have e1 : v3.cell? ⟨w.heap.size + 1 + 1, 1, none⟩ = some (.slice none 0 0) := cell_at n2 1
    have e2 : v3.cell? ⟨w.heap.size + 1 + 1, 2, none⟩ = some (.slice none 0 0) := cell_at n2 2
    have f0 : v3.frozen? ⟨w.heap.size + 1 + 1, 0, none⟩ = false := frozen_at n2 0
    have f1 : v3.frozen? ⟨w.heap.size + 1 + 1, 1, none⟩ = false := frozen_at n2 1
    have f2 : v3.frozen? ⟨w.heap.size + 1 + 1, 2, none⟩ = false := frozen_at n2 2
    have HFIN : Hid (∀ W, Sw (w.heap.size + 1 + 1) (w.heap.size) v3 W → Copied w.heap.size W y (merO false o o2)) := fun W s => ⟨own_lower (s.own C3.off (by omega) (by omega)) (by omega), own_lower (s.own C3.seen (by omega) (by omega)) (by omega)⟩
    have HB : Hid (∀ W, Below w.heap.size v3 W → Below w.heap.size w W) := fun W q => B3.trans q
    clear n2 B3 C3 I J hv
    go_wp2
    refine bodyPost_ret (v := ceV y o) (by simp [results, Try.results26, go_sem, e0, e1, e2]) rfl ?_
    refine ⟨y, by rw [HV.out] <;> rfl, ?_, HB.out _ ?_⟩
    · rw [HV.out]
      refine HFIN.out _ ?_
      (repeat' (first | with_reducible exact Sw.refl _ _ _ | with_reducible apply Sw.one | with_reducible apply Sw.two))
    · (repeat' (first | with_reducible exact Below.refl _ _ | apply Below.setCell)) <;> first | (simp; done) | (simp; omega)
  · have HV : Hid (cenB o2 = true) := hb
    clear hb HC
    have c2 : v1.cell? ⟨w.heap.size + 1, 2, none⟩ = some (.slice (some ⟨b2, u2, none⟩) o2.sl.length x2.d) := by rw [← HXB.out]; exact cell_at m1 2
    have J1 : Controls v1 (some ⟨b2, u2, none⟩) o2.sl := by rw [← HXB.out]; exact (J.on B1).seen
    have HX2 : Hid (_) := HXB.out
    clear HXB
    go_wp2_with fail
    refine (HD.out _ _ (I.on B1) J1).mono ?_
    rintro e v3 ⟨y, rfl, C3, L3⟩
    clear c2 J1
    have n2 := kept L3 (lt_of m2) m2
    have B3 := join_below B1 L3
    have hv : w.heap.size + 1 + 1 < v1.heap.size := lt_of m2
    clear m0 m1 m2 a0 a1 a2 B1 L3
    have e0 : v3.cell? ⟨w.heap.size + 1 + 1, 0, none⟩ = some (.int .i64 0) := cell_at n2 0
    have e1 : v3.cell? ⟨w.heap.size + 1 + 1, 1, none⟩ = some (.slice none 0 0) := cell_at n2 1
    have e2 : v3.cell? ⟨w.heap.size + 1 + 1, 2, none⟩ = some (.slice none 0 0) := cell_at n2 2
    have f0 : v3.frozen? ⟨w.heap.size + 1 + 1, 0, none⟩ = false := frozen_at n2 0
    have f1 : v3.frozen? ⟨w.heap.size + 1 + 1, 1, none⟩ = false := frozen_at n2 1
    have f2 : v3.frozen? ⟨w.heap.size + 1 + 1, 2, none⟩ = false := frozen_at n2 2
    have HFIN : Hid (∀ W, Sw (w.heap.size + 1 + 1) (w.heap.size) v3 W → Copied w.heap.size W y (merO true o o2)) := fun W s => ⟨own_lower (s.own C3.off (by omega) (by omega)) (by omega), own_lower (s.own C3.seen (by omega) (by omega)) (by omega)⟩
    have HB : Hid (∀ W, Below w.heap.size v3 W → Below w.heap.size w W) := fun W q => B3.trans q
    clear n2 B3 C3 I J hv
    have HRR : Hid ((merO true o o2) = (delO (cenB o) o o2.sl)) := rfl
    generalize (delO (cenB o) o o2.sl) = R at *
    go_wp2
    refine bodyPost_ret (v := ceV y R) (by simp [results, Try.results26, go_sem, e0, e1, e2]) rfl ?_
    refine ⟨y, by rw [HV.out]; rw [HRR.out], ?_, HB.out _ ?_⟩
    · rw [HV.out]
      refine HFIN.out _ ?_
      (repeat' (first | with_reducible exact Sw.refl _ _ _ | with_reducible apply Sw.one | with_reducible apply Sw.two))
    · (repeat' (first | with_reducible exact Below.refl _ _ | apply Below.setCell)) <;> first | (simp; done) | (simp; omega)

set_option maxRecDepth 100000 in
set_option maxHeartbeats 8000000 in
theorem specMer_val (x : Pl) (o : Ctr) (x2 : Pl) (o2 : Ctr) (w : World) (hz : o.ol.length ≤ 1048576) (hz2 : o.sl.length ≤ 1048576) (hy : o2.ol.length ≤ 1048576) (hy2 : o2.sl.length ≤ 1048576) (hwf : Wfs o.sl) (hwl : Wfs o2.sl) (I : In w x o) (fl : Flat x) (J : In w x2 o2) (fl2 : Flat x2) :
    Calls Try.prog 27 #[ceV x o, ceV x2 o2] w fun e w' => ∃ y, e = .returned (ceV y (merO (cenB o2) o o2)) ∧ Copied w.heap.size w' y (merO (cenB o2) o o2) ∧ Below w.heap.size w w' := by
  obtain ⟨k0, k1, k2⟩ := three_blocks w (ceB x o 27) (ceB x2 o2 27) (.cells #[.int .i64 0, .slice none 0 0, .slice none 0 0] 27)
  have L : Below w.heap.size w (((w.alloc (ceB x o 27)).alloc (ceB x2 o2 27)).alloc (.cells #[.int .i64 0, .slice none 0 0, .slice none 0 0] 27)) := join_below (join_below (new_below _ _) (new_below _ _)) (new_below _ _)
  have HC : Hid (∀ W : World, In W x o → _) := fun W h => specCopy_val x o W hz hz2 h fl
  have HH : Hid (∀ W : World, In W x2 o2 → _) := fun W h => specCentre_val x2 o2 W hy hy2 h
  obtain ⟨b2, u2, hxb0⟩ := fl2.2
  have HXB : Hid (x2.b = some ⟨b2, u2, none⟩) := hxb0
  have HD : Hid (∀ (c : Nat) (W : World), In W x o → Controls W (some ⟨b2, u2, none⟩) o2.sl → _) := fun c W h k => specDel_val x o (some ⟨b2, u2, none⟩) o2.sl c W hz hz2 hy2 h fl k
  clear fl fl2 hxb0 hwf hwl hz hz2 hy hy2
  go_enter Try.func27, Try.ntmps27
  go_wp2_with fail
  refine named fun V0 hV => ?_
  rw [← hV] at k0 k1 k2 L
  clear hV
  refine (HH.out _ (J.on L)).mono ?_
  rintro e v1 ⟨rfl, L1⟩
  have m0 := kept L1 (lt_of k0) k0
  have m1 := kept L1 (lt_of k1) k1
  have m2 := kept L1 (lt_of k2) k2
  have B1 := join_below L L1
  clear k0 k1 k2 L L1 HH
  have a0 : v1.cell? ⟨w.heap.size, 0, none⟩ = some (.int .i64 o.ve) := cell_at m0 0
  have a1 : v1.cell? ⟨w.heap.size, 1, none⟩ = some (.slice x.a o.ol.length x.c) := cell_at m0 1
  have a2 : v1.cell? ⟨w.heap.size, 2, none⟩ = some (.slice x.b o.sl.length x.d) := cell_at m0 2
  cases hb : cenB o2
  · have HV : Hid (cenB o2 = false) := hb
    clear hb HD
    go_wp2_with fail
    refine (HC.out _ (I.on B1)).mono ?_
    rintro e v3 ⟨y, rfl, C3, L3⟩
    have n2 := kept L3 (lt_of m2) m2
    have B3 := join_below B1 L3
    have hv : w.heap.size + 1 + 1 < v1.heap.size := lt_of m2
    clear m0 m1 m2 a0 a1 a2 B1 L3
    have e0 : v3.cell? ⟨w.heap.size + 1 + 1, 0, none⟩ = some (.int .i64 0) := cell_at n2 0
    have e1 : v3.cell? ⟨w.heap.size + 1 + 1, 1, none⟩ = some (.slice none 0 0) := cell_at n2 1
    have e2 : v3.cell? ⟨w.heap.size + 1 + 1, 2, none⟩ = some (.slice none 0 0) := cell_at n2 2
    have f0 : v3.frozen? ⟨w.heap.size + 1 + 1, 0, none⟩ = false := frozen_at n2 0
    have f1 : v3.frozen? ⟨w.heap.size + 1 + 1, 1, none⟩ = false := frozen_at n2 1
    have f2 : v3.frozen? ⟨w.heap.size + 1 + 1, 2, none⟩ = false := frozen_at n2 2
    have HFIN : Hid (∀ W, Sw (w.heap.size + 1 + 1) (w.heap.size) v3 W → Copied w.heap.size W y (merO false o o2)) := fun W s => ⟨own_lower (s.own C3.off (by omega) (by omega)) (by omega), own_lower (s.own C3.seen (by omega) (by omega)) (by omega)⟩
    have HB : Hid (∀ W, Below w.heap.size v3 W → Below w.heap.size w W) := fun W q => B3.trans q
    clear n2 B3 C3 I J hv
    go_wp2
    refine bodyPost_ret (v := ceV y o) (by simp [results, Try.results27, go_sem, e0, e1, e2]) rfl ?_
    refine ⟨y, by rw [HV.out] <;> rfl, ?_, HB.out _ ?_⟩
    · rw [HV.out]
      refine HFIN.out _ ?_
      (repeat' (first | with_reducible exact Sw.refl _ _ _ | with_reducible apply Sw.one | with_reducible apply Sw.two))
    · (repeat' (first | with_reducible exact Below.refl _ _ | apply Below.setCell)) <;> first | (simp; done) | (simp; omega)
  · have HV : Hid (cenB o2 = true) := hb
    clear hb HC
    have c2 : v1.cell? ⟨w.heap.size + 1, 2, none⟩ = some (.slice (some ⟨b2, u2, none⟩) o2.sl.length x2.d) := by rw [← HXB.out]; exact cell_at m1 2
    have J1 : Controls v1 (some ⟨b2, u2, none⟩) o2.sl := by rw [← HXB.out]; exact (J.on B1).seen
    have HX2 : Hid (_) := HXB.out
    clear HXB
    go_wp2_with fail
    refine (HD.out _ _ (I.on B1) J1).mono ?_
    rintro e v3 ⟨y, rfl, C3, L3⟩
    clear c2 J1
    have n2 := kept L3 (lt_of m2) m2
    have B3 := join_below B1 L3
    have hv : w.heap.size + 1 + 1 < v1.heap.size := lt_of m2
    clear m0 m1 m2 a0 a1 a2 B1 L3
    have e0 : v3.cell? ⟨w.heap.size + 1 + 1, 0, none⟩ = some (.int .i64 0) := cell_at n2 0
    have e1 : v3.cell? ⟨w.heap.size + 1 + 1, 1, none⟩ = some (.slice none 0 0) := cell_at n2 1
    have e2 : v3.cell? ⟨w.heap.size + 1 + 1, 2, none⟩ = some (.slice none 0 0) := cell_at n2 2
    have f0 : v3.frozen? ⟨w.heap.size + 1 + 1, 0, none⟩ = false := frozen_at n2 0
    have f1 : v3.frozen? ⟨w.heap.size + 1 + 1, 1, none⟩ = false := frozen_at n2 1
    have f2 : v3.frozen? ⟨w.heap.size + 1 + 1, 2, none⟩ = false := frozen_at n2 2
    have HFIN : Hid (∀ W, Sw (w.heap.size + 1 + 1) (w.heap.size) v3 W → Copied w.heap.size W y (merO true o o2)) := fun W s => ⟨own_lower (s.own C3.off (by omega) (by omega)) (by omega), own_lower (s.own C3.seen (by omega) (by omega)) (by omega)⟩
    have HB : Hid (∀ W, Below w.heap.size v3 W → Below w.heap.size w W) := fun W q => B3.trans q
    clear n2 B3 C3 I J hv
    have HRR : Hid ((merO true o o2) = (delO (cenB o) o o2.sl)) := rfl
    generalize (delO (cenB o) o o2.sl) = R at *
    go_wp2
    refine bodyPost_ret (v := ceV y R) (by simp [results, Try.results27, go_sem, e0, e1, e2]) rfl ?_
    refine ⟨y, by rw [HV.out]; rw [HRR.out], ?_, HB.out _ ?_⟩
    · rw [HV.out]
      refine HFIN.out _ ?_
      (repeat' (first | with_reducible exact Sw.refl _ _ _ | with_reducible apply Sw.one | with_reducible apply Sw.two))
    · (repeat' (first | with_reducible exact Below.refl _ _ | apply Below.setCell)) <;> first | (simp; done) | (simp; omega)

end Hn
end Go.Proofs.Ytbmfhdlbbaabgaa

/- The law of what is taken off, at a code that is not too long. -/
namespace Go.Proofs.Ytbmfhdlbbaabgaa
namespace Hn
open Go.ChangeShapes Go.WideShapes Go.ChangeAt Go.RowKit Go.Joins
open Pk (new_below join_below cell_at heap_new frozen_at lt_of kept heap_old Drawn info_of Room own_form own_below)
open Cur (Is Moved Bytes Kb new_any below_any)
set_option linter.unusedSimpArgs false
set_option linter.unusedVariables false

theorem mer_len (b : Bool) (o o2 : Ctr) (h1 : o.ol.length ≤ 200000) (h2 : o.sl.length ≤ 200000) : (merO b o o2).sl.length ≤ 1048576 := by
  cases b
  · show o.sl.length ≤ _; omega
  · show (delO (cenB o) o o2.sl).sl.length ≤ _
    cases hc : cenB o
    · rw [del_no]; omega
    · rw [del_yes]
      have := delF_len o2.sl (cen_ctls hc).1 o2.sl.length
      show (delF o.sl o2.sl o2.sl.length).length ≤ _
      omega

theorem rev_size (o : Ctr) (x : Int) (h1 : o.ol.length ≤ 200000) (h2 : o.sl.length ≤ 200000) : (revO (revB o x) o x).ol.length ≤ 1048576 ∧ (revO (revB o x) o x).sl.length ≤ 1048576 := by
  have h3 := rev_len o x
  rw [rev_sl]
  exact ⟨by omega, by omega⟩

set_option maxRecDepth 100000 in
set_option maxHeartbeats 8000000 in
theorem revoked_law (a : Option Addr) (n cap : Nat) (w1 : World) (hb : n ≤ 1048576) (BY : Bytes w1 a n) :
    Calls Try.prog 4 #[.slice a n cap] w1 fun e w' => e = .returned (.bool true) ∧ Below w1.heap.size w1 w' := by
  go_enter Try.func4, Try.ntmps4
  go_wp2_with fail
  refine (Cur.big_no a n cap _ hb).mono ?_
  rintro e w1 ⟨rfl, rfl⟩
  go_wp2_with fail
  refine (drawRevoke _ a n cap hb BY).mono ?_
  rintro e w2 ⟨⟨y, o, id, rfl, D⟩, BL⟩
  replace BY := BY.on BL
  obtain ⟨rb, hrb⟩ : ∃ b, revB o id = b := ⟨_, rfl⟩
  have HZ3 : Hid ((revO (revB o id) o id).ol.length ≤ 1048576 ∧ (revO (revB o id) o id).sl.length ≤ 1048576) := rev_size o id D.nl D.ns
  have HRI : Hid (∀ W : World, Drw w1.heap.size W y o → _) := fun W h => implRev_val y o id W (by have := h.nl; omega) (by have := h.ns; omega) h.cp.in h.flat
  have HRS : Hid (∀ W : World, Drw w1.heap.size W y o → _) := fun W h => specRev_val y o id W (by have := h.nl; omega) (by have := h.ns; omega) h.cp.in h.flat h.cp.cap
  obtain ⟨o3, ho3⟩ : ∃ x, revO rb o id = x := ⟨_, rfl⟩
  simp only [hrb, ho3] at HRI HRS HZ3
  have HRB : Hid (revB o id = rb) := hrb
  have HO3 : Hid (revO rb o id = o3) := ho3
  clear hrb ho3
  have NA := new_below w2 (ceB y o 27)
  have q1 := heap_new w2 (ceB y o 27)
  replace BL := join_below BL NA
  replace BY := BY.on NA
  replace D := D.on NA
  clear NA
  go_wp2_with fail
  generalize w2.heap.size = P1 at *
  generalize w2.alloc (ceB y o 27) = W3 at *
  refine (HRI.out _ D).mono ?_
  rintro e w4 ⟨y3, rfl, E3, L⟩
  replace BL := join_below BL L
  replace BY := BY.on L
  replace D := D.on L
  replace q1 := kept L (lt_of q1) q1
  clear L
  have NA := new_below w4 (ceB y3 o3 27)
  have q3 := heap_new w4 (ceB y3 o3 27)
  replace BL := join_below BL NA
  replace BY := BY.on NA
  replace D := D.on NA
  replace q1 := kept NA (lt_of q1) q1
  replace E3 := E3.on NA
  clear NA
  have a0 : (w4.alloc (ceB y3 o3 27)).cell? ⟨P1, 0, none⟩ = some (.int .i64 o.ve) := cell_at q1 0
  have a1 : (w4.alloc (ceB y3 o3 27)).cell? ⟨P1, 1, none⟩ = some (.slice y.a o.ol.length y.c) := cell_at q1 1
  have a2 : (w4.alloc (ceB y3 o3 27)).cell? ⟨P1, 2, none⟩ = some (.slice y.b o.sl.length y.d) := cell_at q1 2
  go_wp2_with fail
  clear a0 a1 a2
  generalize w4.heap.size = P3 at *
  generalize w4.alloc (ceB y3 o3 27) = W5 at *
  refine (HRS.out _ D).mono ?_
  rintro e w6 ⟨y4, rfl, E4, L⟩
  replace BL := join_below BL L
  replace BY := BY.on L
  replace D := D.on L
  replace q1 := kept L (lt_of q1) q1
  replace E3 := E3.on L
  replace q3 := kept L (lt_of q3) q3
  clear L
  have NA := new_below w6 (ceB y4 o3 27)
  have q4 := heap_new w6 (ceB y4 o3 27)
  replace BL := join_below BL NA
  replace BY := BY.on NA
  replace D := D.on NA
  replace q1 := kept NA (lt_of q1) q1
  replace E3 := E3.on NA
  replace q3 := kept NA (lt_of q3) q3
  replace E4 := E4.on NA
  clear NA
  have a1 : (w6.alloc (ceB y4 o3 27)).cell? ⟨P3, 1, none⟩ = some (.slice y3.a o3.ol.length y3.c) := cell_at q3 1
  have b1 : (w6.alloc (ceB y4 o3 27)).cell? ⟨w6.heap.size, 1, none⟩ = some (.slice y4.a o3.ol.length y4.c) := cell_at q4 1
  go_wp2_with fail
  clear a1 b1
  generalize w6.heap.size = P4 at *
  generalize w6.alloc (ceB y4 o3 27) = W7 at *
  refine (sameInts_same y3.a y4.a o3.ol y3.c y4.c W7 HZ3.out.1 E3.in.off E4.in.off).mono ?_
  rintro e w8 ⟨rfl, DR⟩
  have L := DR.below W7.heap.size
  clear DR
  replace BL := join_below BL L
  replace BY := BY.on L
  replace D := D.on L
  replace q1 := kept L (lt_of q1) q1
  replace E3 := E3.on L
  replace q3 := kept L (lt_of q3) q3
  replace E4 := E4.on L
  replace q4 := kept L (lt_of q4) q4
  clear L
  have a0 : w8.cell? ⟨P3, 0, none⟩ = some (.int .i64 o3.ve) := cell_at q3 0
  have b0 : w8.cell? ⟨P4, 0, none⟩ = some (.int .i64 o3.ve) := cell_at q4 0
  go_wp2_with fail
  clear a0 b0 E4 q4
  refine (drawDoubles _ a n cap hb BY).mono ?_
  rintro e w9 ⟨⟨y5, o5, rfl, D5⟩, L⟩
  replace BL := join_below BL L
  replace BY := BY.on L
  replace D := D.on L
  replace q1 := kept L (lt_of q1) q1
  replace E3 := E3.on L
  replace q3 := kept L (lt_of q3) q3
  clear L
  have NA := new_below w9 (ceB y5 o5 27)
  have q5 := heap_new w9 (ceB y5 o5 27)
  replace BL := join_below BL NA
  replace BY := BY.on NA
  replace D := D.on NA
  replace q1 := kept NA (lt_of q1) q1
  replace E3 := E3.on NA
  replace q3 := kept NA (lt_of q3) q3
  replace D5 := D5.on NA
  clear NA
  go_wp2_with fail
  generalize w9.heap.size = P5 at *
  generalize w9.alloc (ceB y5 o5 27) = V1 at *
  refine (drawMissing _ a n cap hb BY).mono ?_
  rintro e v2 ⟨⟨y6, o6, dv, rfl, D6⟩, L⟩
  replace BL := join_below BL L
  replace BY := BY.on L
  replace D := D.on L
  replace q1 := kept L (lt_of q1) q1
  replace E3 := E3.on L
  replace q3 := kept L (lt_of q3) q3
  replace D5 := D5.on L
  replace q5 := kept L (lt_of q5) q5
  clear L
  have NA := new_below v2 (ceB y6 o6 27)
  have q6 := heap_new v2 (ceB y6 o6 27)
  replace BL := join_below BL NA
  replace BY := BY.on NA
  replace D := D.on NA
  replace q1 := kept NA (lt_of q1) q1
  replace E3 := E3.on NA
  replace q3 := kept NA (lt_of q3) q3
  replace D5 := D5.on NA
  replace q5 := kept NA (lt_of q5) q5
  replace D6 := D6.on NA
  clear NA
  go_wp2_with fail
  generalize v2.heap.size = P6 at *
  generalize v2.alloc (ceB y6 o6 27) = V3 at *
  refine (drawMerge _ a n cap hb BY).mono ?_
  rintro e v4 ⟨⟨y7, o7, y8, o8, rfl, D7, D8⟩, L⟩
  replace BL := join_below BL L
  replace BY := BY.on L
  replace D := D.on L
  replace q1 := kept L (lt_of q1) q1
  replace E3 := E3.on L
  replace q3 := kept L (lt_of q3) q3
  replace D5 := D5.on L
  replace q5 := kept L (lt_of q5) q5
  replace D6 := D6.on L
  replace q6 := kept L (lt_of q6) q6
  clear L
  have NA := join_below (new_below v4 (ceB y7 o7 27)) (new_below _ (ceB y8 o8 27))
  obtain ⟨q7, q8, hsz⟩ := two_blocks v4 (ceB y7 o7 27) (ceB y8 o8 27)
  replace BL := join_below BL NA
  replace BY := BY.on NA
  replace D := D.on NA
  replace q1 := kept NA (lt_of q1) q1
  replace E3 := E3.on NA
  replace q3 := kept NA (lt_of q3) q3
  replace D5 := D5.on NA
  replace q5 := kept NA (lt_of q5) q5
  replace D6 := D6.on NA
  replace q6 := kept NA (lt_of q6) q6
  replace D7 := D7.on NA
  replace D8 := D8.on NA
  clear NA
  go_wp2
  generalize (v4.alloc (ceB y7 o7 27)).alloc (ceB y8 o8 27) = V at *
  obtain ⟨P7, hP7⟩ : ∃ P, v4.heap.size = P := ⟨_, rfl⟩
  obtain ⟨P8, hP8⟩ : ∃ P, v4.heap.size + 1 = P := ⟨_, rfl⟩
  rw [hP8] at q8 ⊢
  rw [hP7] at q7 ⊢
  clear hP7 hP8 hsz
  have HS : Hid (∀ W, Below V.heap.size V W → (fun w' : World => w'.cell? ⟨P5, 0, none⟩ = some (.int .i64 o5.ve) ∧ w'.cell? ⟨P5, 1, none⟩ = some (.slice y5.a o5.ol.length y5.c) ∧ w'.cell? ⟨P5, 2, none⟩ = some (.slice y5.b o5.sl.length y5.d) ∧ w'.cell? ⟨P6, 0, none⟩ = some (.int .i64 o6.ve) ∧ w'.cell? ⟨P6, 1, none⟩ = some (.slice y6.a o6.ol.length y6.c) ∧ w'.cell? ⟨P6, 2, none⟩ = some (.slice y6.b o6.sl.length y6.d) ∧ w'.cell? ⟨P7, 0, none⟩ = some (.int .i64 o7.ve) ∧ w'.cell? ⟨P7, 1, none⟩ = some (.slice y7.a o7.ol.length y7.c) ∧ w'.cell? ⟨P7, 2, none⟩ = some (.slice y7.b o7.sl.length y7.d) ∧ w'.cell? ⟨P8, 0, none⟩ = some (.int .i64 o8.ve) ∧ w'.cell? ⟨P8, 1, none⟩ = some (.slice y8.a o8.ol.length y8.c) ∧ w'.cell? ⟨P8, 2, none⟩ = some (.slice y8.b o8.sl.length y8.d)) W) := fun W h => ⟨cell_at (kept h (lt_of q5) q5) 0, cell_at (kept h (lt_of q5) q5) 1, cell_at (kept h (lt_of q5) q5) 2, cell_at (kept h (lt_of q6) q6) 0, cell_at (kept h (lt_of q6) q6) 1, cell_at (kept h (lt_of q6) q6) 2, cell_at (kept h (lt_of q7) q7) 0, cell_at (kept h (lt_of q7) q7) 1, cell_at (kept h (lt_of q7) q7) 2, cell_at (kept h (lt_of q8) q8) 0, cell_at (kept h (lt_of q8) q8) 1, cell_at (kept h (lt_of q8) q8) 2⟩
  have HI5 : Hid (∀ W, Below V.heap.size V W → Drw 0 W y5 o5) := fun W h => (D5.on h).lower (Nat.zero_le _)
  have HI6 : Hid (∀ W, Below V.heap.size V W → Drw 0 W y6 o6) := fun W h => (D6.on h).lower (Nat.zero_le _)
  have HI7 : Hid (∀ W, Below V.heap.size V W → Drw 0 W y7 o7) := fun W h => (D7.on h).lower (Nat.zero_le _)
  have HI8 : Hid (∀ W, Below V.heap.size V W → Drw 0 W y8 o8) := fun W h => (D8.on h).lower (Nat.zero_le _)
  have HDI : Hid (∀ W : World, Drw 0 W y5 o5 → _) := fun W h => implDbl_val y5 o5 W (by have := h.ns; omega) h.wf h.cp.in
  have HDS : Hid (∀ W : World, Drw 0 W y5 o5 → _) := fun W h => specDbl_val y5 o5 W (by have := h.ns; omega) h.cp.in
  have HMI : Hid (∀ W : World, Drw 0 W y6 o6 → _) := fun W h => implMiss_val y6 o6 dv W (by have := h.ns; omega) h.cp.in
  have HMS : Hid (∀ W : World, Drw 0 W y6 o6 → _) := fun W h => specMiss_val y6 o6 dv W (by have := h.ns; omega) h.cp.in
  have HGI : Hid (∀ W : World, Drw 0 W y7 o7 → Drw 0 W y8 o8 → _) := fun W h g => implMer_val y7 o7 y8 o8 W (by have := h.nl; omega) (by have := h.ns; omega) (by have := g.nl; omega) (by have := g.ns; omega) h.wf g.wf h.cp.in h.flat g.cp.in g.flat
  have HGS : Hid (∀ W : World, Drw 0 W y7 o7 → Drw 0 W y8 o8 → _) := fun W h g => specMer_val y7 o7 y8 o8 W (by have := h.nl; omega) (by have := h.ns; omega) (by have := g.nl; omega) (by have := g.ns; omega) h.wf g.wf h.cp.in h.flat g.cp.in g.flat
  have HL9 : Hid ((merO (cenB o8) o7 o8).sl.length ≤ 1048576) := mer_len _ _ _ D7.nl D7.ns
  have HLD : Hid ((dblL o5.sl).length ≤ 1048576) := by have := D5.ns; have := dblI_len o5.sl o5.sl.length; show _ ≤ _; unfold dblL; omega
  have HLM : Hid ((missL dv o6.sl).length ≤ 1048576) := by have := missL_len dv o6.sl; show _ ≤ _; omega
  generalize merO (cenB o8) o7 o8 = o9 at *
  generalize dblL o5.sl = ld at *
  generalize missL dv o6.sl = lm at *
  have K0 := (Below.refl V.heap.size V).drew
  refine wp_region_held_drew (S := (fun w' : World => w'.cell? ⟨P5, 0, none⟩ = some (.int .i64 o5.ve) ∧ w'.cell? ⟨P5, 1, none⟩ = some (.slice y5.a o5.ol.length y5.c) ∧ w'.cell? ⟨P5, 2, none⟩ = some (.slice y5.b o5.sl.length y5.d) ∧ w'.cell? ⟨P6, 0, none⟩ = some (.int .i64 o6.ve) ∧ w'.cell? ⟨P6, 1, none⟩ = some (.slice y6.a o6.ol.length y6.c) ∧ w'.cell? ⟨P6, 2, none⟩ = some (.slice y6.b o6.sl.length y6.d) ∧ w'.cell? ⟨P7, 0, none⟩ = some (.int .i64 o7.ve) ∧ w'.cell? ⟨P7, 1, none⟩ = some (.slice y7.a o7.ol.length y7.c) ∧ w'.cell? ⟨P7, 2, none⟩ = some (.slice y7.b o7.sl.length y7.d) ∧ w'.cell? ⟨P8, 0, none⟩ = some (.int .i64 o8.ve) ∧ w'.cell? ⟨P8, 1, none⟩ = some (.slice y8.a o8.ol.length y8.c) ∧ w'.cell? ⟨P8, 2, none⟩ = some (.slice y8.b o8.sl.length y8.d))) (by kernel_rfl) ?_ (fun hHeld => ?_)
  · exact HS.out _ K0
  refine wpAnyH_take (i := 0) (v := ceV y5 o5) rfl (by kernel_rfl) (by kernel_rfl) (by kernel_rfl) (fun _ _ _ h => h) (Or.inl ⟨by kernel_rfl, fun w hSw => by first | (go_simp; done) | (dsimp only at hSw; obtain ⟨s0, s1, s2, s3, s4, s5, s6, s7, s8, s9, s10, s11⟩ := hSw; go_simp; done) | rfl⟩) (by assumption) ?_
  simp only [Act.put, List.getElem_toArray, List.getElem_cons_succ, List.getElem_cons_zero, List.setIfInBounds_toArray, List.set_cons_succ, List.set_cons_zero]
  refine wpAnyH_take (i := 2) (v := ceV y5 o5) rfl (by kernel_rfl) (by kernel_rfl) (by kernel_rfl) (fun _ _ _ h => h) (Or.inl ⟨by kernel_rfl, fun w hSw => by first | (go_simp; done) | (dsimp only at hSw; obtain ⟨s0, s1, s2, s3, s4, s5, s6, s7, s8, s9, s10, s11⟩ := hSw; go_simp; done) | rfl⟩) (by assumption) ?_
  simp only [Act.put, List.getElem_toArray, List.getElem_cons_succ, List.getElem_cons_zero, List.setIfInBounds_toArray, List.set_cons_succ, List.set_cons_zero]
  refine wpAnyH_ready (rs := [1]) (by kernel_rfl) (by simp) ?_
  refine AllReadyH.cons rfl (fun K hK => ?_) AllReadyH.nil
  go_simp
  go_wp2_with ((go_at_call 22; (with_reducible refine (HDI.out _ ?_).mono ?_); (exact HI5.out _ K0); rintro e u1 ⟨z1, rfl, O1, L1⟩; have K1 := join_below K0 L1; obtain ⟨r1, t1, rfl, J1⟩ := own_ints O1))
  refine hK.out _ _ ?_ (fun hHeld2 => ?_)
  · exact HS.out _ K1
  clear hK K hHeld
  have hHeld := hHeld2
  clear hHeld2
  refine wpAnyH_ready (rs := [3]) (by kernel_rfl) (by simp) ?_
  refine AllReadyH.cons rfl (fun K hK => ?_) AllReadyH.nil
  go_simp
  go_wp2_with ((go_at_call 23; (with_reducible refine (HDS.out _ ?_).mono ?_); (exact HI5.out _ K1); rintro e u2 ⟨z2, rfl, O2, L2⟩; have K2 := join_below K1 L2; obtain ⟨r2, t2, rfl, J2⟩ := own_ints O2))
  refine hK.out _ _ ?_ (fun hHeld2 => ?_)
  · exact HS.out _ K2
  clear hK K hHeld
  have hHeld := hHeld2
  clear hHeld2
  refine wpAnyH_ready (rs := [4]) (by kernel_rfl) (by simp) ?_
  refine AllReadyH.cons rfl (fun K hK => ?_) AllReadyH.nil
  go_simp
  go_wp2_with ((go_at_call 18; (with_reducible refine (sameInts_same r1 r2 ld t1 t2 _ HLD.out ?_ J2).mono ?_); (exact J1.on L2); rintro e u3 ⟨rfl, G3⟩; have K3 := join_below K2 (G3.below _)))
  refine hK.out _ _ ?_ (fun hHeld2 => ?_)
  · exact HS.out _ K3
  clear hK K hHeld
  have hHeld := hHeld2
  clear hHeld2
  refine wpAnyH_take (i := 5) (v := .bool false) rfl (by kernel_rfl) (by kernel_rfl) (by kernel_rfl) (fun _ _ _ h => h) (Or.inl ⟨by kernel_rfl, fun w hSw => by first | (go_simp; done) | (dsimp only at hSw; obtain ⟨s0, s1, s2, s3, s4, s5, s6, s7, s8, s9, s10, s11⟩ := hSw; go_simp; done) | rfl⟩) (by assumption) ?_
  simp only [Act.put, List.getElem_toArray, List.getElem_cons_succ, List.getElem_cons_zero, List.setIfInBounds_toArray, List.set_cons_succ, List.set_cons_zero]
  refine wpAnyH_take (i := 6) (v := .bool false) rfl (by kernel_rfl) (by kernel_rfl) (by kernel_rfl) (fun _ _ _ h => h) (Or.inl ⟨by kernel_rfl, fun w hSw => by first | (go_simp; done) | (dsimp only at hSw; obtain ⟨s0, s1, s2, s3, s4, s5, s6, s7, s8, s9, s10, s11⟩ := hSw; go_simp; done) | rfl⟩) (by assumption) ?_
  simp only [Act.put, List.getElem_toArray, List.getElem_cons_succ, List.getElem_cons_zero, List.setIfInBounds_toArray, List.set_cons_succ, List.set_cons_zero]
  refine wpAnyH_take (i := 7) (v := ceV y6 o6) rfl (by kernel_rfl) (by kernel_rfl) (by kernel_rfl) (fun _ _ _ h => h) (Or.inl ⟨by kernel_rfl, fun w hSw => by first | (go_simp; done) | (dsimp only at hSw; obtain ⟨s0, s1, s2, s3, s4, s5, s6, s7, s8, s9, s10, s11⟩ := hSw; go_simp; done) | rfl⟩) (by assumption) ?_
  simp only [Act.put, List.getElem_toArray, List.getElem_cons_succ, List.getElem_cons_zero, List.setIfInBounds_toArray, List.set_cons_succ, List.set_cons_zero]
  refine wpAnyH_take (i := 8) (v := .int .i64 dv) rfl (by kernel_rfl) (by kernel_rfl) (by kernel_rfl) (fun _ _ _ h => h) (Or.inl ⟨by kernel_rfl, fun w hSw => by first | (go_simp; done) | (dsimp only at hSw; obtain ⟨s0, s1, s2, s3, s4, s5, s6, s7, s8, s9, s10, s11⟩ := hSw; go_simp; done) | rfl⟩) (by assumption) ?_
  simp only [Act.put, List.getElem_toArray, List.getElem_cons_succ, List.getElem_cons_zero, List.setIfInBounds_toArray, List.set_cons_succ, List.set_cons_zero]
  refine wpAnyH_take (i := 10) (v := ceV y6 o6) rfl (by kernel_rfl) (by kernel_rfl) (by kernel_rfl) (fun _ _ _ h => h) (Or.inl ⟨by kernel_rfl, fun w hSw => by first | (go_simp; done) | (dsimp only at hSw; obtain ⟨s0, s1, s2, s3, s4, s5, s6, s7, s8, s9, s10, s11⟩ := hSw; go_simp; done) | rfl⟩) (by assumption) ?_
  simp only [Act.put, List.getElem_toArray, List.getElem_cons_succ, List.getElem_cons_zero, List.setIfInBounds_toArray, List.set_cons_succ, List.set_cons_zero]
  refine wpAnyH_take (i := 11) (v := .int .i64 dv) rfl (by kernel_rfl) (by kernel_rfl) (by kernel_rfl) (fun _ _ _ h => h) (Or.inl ⟨by kernel_rfl, fun w hSw => by first | (go_simp; done) | (dsimp only at hSw; obtain ⟨s0, s1, s2, s3, s4, s5, s6, s7, s8, s9, s10, s11⟩ := hSw; go_simp; done) | rfl⟩) (by assumption) ?_
  simp only [Act.put, List.getElem_toArray, List.getElem_cons_succ, List.getElem_cons_zero, List.setIfInBounds_toArray, List.set_cons_succ, List.set_cons_zero]
  refine wpAnyH_ready (rs := [9]) (by kernel_rfl) (by simp) ?_
  refine AllReadyH.cons rfl (fun K hK => ?_) AllReadyH.nil
  go_simp
  go_wp2_with ((go_at_call 24; (with_reducible refine (HMI.out _ ?_).mono ?_); (exact HI6.out _ K3); rintro e u4 ⟨z4, rfl, O4, L4⟩; have K4 := join_below K3 L4; obtain ⟨r4, t4, rfl, J4⟩ := own_ints O4))
  refine hK.out _ _ ?_ (fun hHeld2 => ?_)
  · exact HS.out _ K4
  clear hK K hHeld
  have hHeld := hHeld2
  clear hHeld2
  refine wpAnyH_ready (rs := [12]) (by kernel_rfl) (by simp) ?_
  refine AllReadyH.cons rfl (fun K hK => ?_) AllReadyH.nil
  go_simp
  go_wp2_with ((go_at_call 25; (with_reducible refine (HMS.out _ ?_).mono ?_); (exact HI6.out _ K4); rintro e u5 ⟨z5, rfl, O5, L5⟩; have K5 := join_below K4 L5; obtain ⟨r5, t5, rfl, J5⟩ := own_ints O5))
  refine hK.out _ _ ?_ (fun hHeld2 => ?_)
  · exact HS.out _ K5
  clear hK K hHeld
  have hHeld := hHeld2
  clear hHeld2
  refine wpAnyH_ready (rs := [13]) (by kernel_rfl) (by simp) ?_
  refine AllReadyH.cons rfl (fun K hK => ?_) AllReadyH.nil
  go_simp
  go_wp2_with ((go_at_call 18; (with_reducible refine (sameInts_same r4 r5 lm t4 t5 _ HLM.out ?_ J5).mono ?_); (exact J4.on L5); rintro e u6 ⟨rfl, G6⟩; have K6 := join_below K5 (G6.below _)))
  refine hK.out _ _ ?_ (fun hHeld2 => ?_)
  · exact HS.out _ K6
  clear hK K hHeld
  have hHeld := hHeld2
  clear hHeld2
  refine wpAnyH_take (i := 14) (v := .bool false) rfl (by kernel_rfl) (by kernel_rfl) (by kernel_rfl) (fun _ _ _ h => h) (Or.inl ⟨by kernel_rfl, fun w hSw => by first | (go_simp; done) | (dsimp only at hSw; obtain ⟨s0, s1, s2, s3, s4, s5, s6, s7, s8, s9, s10, s11⟩ := hSw; go_simp; done) | rfl⟩) (by assumption) ?_
  simp only [Act.put, List.getElem_toArray, List.getElem_cons_succ, List.getElem_cons_zero, List.setIfInBounds_toArray, List.set_cons_succ, List.set_cons_zero]
  refine wpAnyH_take (i := 15) (v := .bool false) rfl (by kernel_rfl) (by kernel_rfl) (by kernel_rfl) (fun _ _ _ h => h) (Or.inl ⟨by kernel_rfl, fun w hSw => by first | (go_simp; done) | (dsimp only at hSw; obtain ⟨s0, s1, s2, s3, s4, s5, s6, s7, s8, s9, s10, s11⟩ := hSw; go_simp; done) | rfl⟩) (by assumption) ?_
  simp only [Act.put, List.getElem_toArray, List.getElem_cons_succ, List.getElem_cons_zero, List.setIfInBounds_toArray, List.set_cons_succ, List.set_cons_zero]
  refine wpAnyH_take (i := 16) (v := .bool false) rfl (by kernel_rfl) (by kernel_rfl) (by kernel_rfl) (fun _ _ _ h => h) (Or.inl ⟨by kernel_rfl, fun w hSw => by first | (go_simp; done) | (dsimp only at hSw; obtain ⟨s0, s1, s2, s3, s4, s5, s6, s7, s8, s9, s10, s11⟩ := hSw; go_simp; done) | rfl⟩) (by assumption) ?_
  simp only [Act.put, List.getElem_toArray, List.getElem_cons_succ, List.getElem_cons_zero, List.setIfInBounds_toArray, List.set_cons_succ, List.set_cons_zero]
  refine wpAnyH_take (i := 17) (v := ceV y7 o7) rfl (by kernel_rfl) (by kernel_rfl) (by kernel_rfl) (fun _ _ _ h => h) (Or.inl ⟨by kernel_rfl, fun w hSw => by first | (go_simp; done) | (dsimp only at hSw; obtain ⟨s0, s1, s2, s3, s4, s5, s6, s7, s8, s9, s10, s11⟩ := hSw; go_simp; done) | rfl⟩) (by assumption) ?_
  simp only [Act.put, List.getElem_toArray, List.getElem_cons_succ, List.getElem_cons_zero, List.setIfInBounds_toArray, List.set_cons_succ, List.set_cons_zero]
  refine wpAnyH_take (i := 18) (v := ceV y8 o8) rfl (by kernel_rfl) (by kernel_rfl) (by kernel_rfl) (fun _ _ _ h => h) (Or.inl ⟨by kernel_rfl, fun w hSw => by first | (go_simp; done) | (dsimp only at hSw; obtain ⟨s0, s1, s2, s3, s4, s5, s6, s7, s8, s9, s10, s11⟩ := hSw; go_simp; done) | rfl⟩) (by assumption) ?_
  simp only [Act.put, List.getElem_toArray, List.getElem_cons_succ, List.getElem_cons_zero, List.setIfInBounds_toArray, List.set_cons_succ, List.set_cons_zero]
  refine wpAnyH_take (i := 21) (v := ceV y7 o7) rfl (by kernel_rfl) (by kernel_rfl) (by kernel_rfl) (fun _ _ _ h => h) (Or.inl ⟨by kernel_rfl, fun w hSw => by first | (go_simp; done) | (dsimp only at hSw; obtain ⟨s0, s1, s2, s3, s4, s5, s6, s7, s8, s9, s10, s11⟩ := hSw; go_simp; done) | rfl⟩) (by assumption) ?_
  simp only [Act.put, List.getElem_toArray, List.getElem_cons_succ, List.getElem_cons_zero, List.setIfInBounds_toArray, List.set_cons_succ, List.set_cons_zero]
  refine wpAnyH_take (i := 22) (v := ceV y8 o8) rfl (by kernel_rfl) (by kernel_rfl) (by kernel_rfl) (fun _ _ _ h => h) (Or.inl ⟨by kernel_rfl, fun w hSw => by first | (go_simp; done) | (dsimp only at hSw; obtain ⟨s0, s1, s2, s3, s4, s5, s6, s7, s8, s9, s10, s11⟩ := hSw; go_simp; done) | rfl⟩) (by assumption) ?_
  simp only [Act.put, List.getElem_toArray, List.getElem_cons_succ, List.getElem_cons_zero, List.setIfInBounds_toArray, List.set_cons_succ, List.set_cons_zero]
  refine wpAnyH_ready (rs := [19]) (by kernel_rfl) (by simp) ?_
  refine AllReadyH.cons rfl (fun K hK => ?_) AllReadyH.nil
  go_simp
  go_wp2_with ((go_at_call 26; (with_reducible refine (HGI.out _ ?_ ?_).mono ?_); (exact HI7.out _ K6); (exact HI8.out _ K6); rintro e u7 ⟨x9, rfl, E9, L7⟩; have K7 := join_below K6 L7))
  refine hK.out _ _ ?_ (fun hHeld2 => ?_)
  · exact HS.out _ K7
  clear hK K hHeld
  have hHeld := hHeld2
  clear hHeld2
  refine wpAnyH_take (i := 20) (v := .slice x9.b o9.sl.length x9.d) rfl (by kernel_rfl) (by kernel_rfl) (by kernel_rfl) (fun _ _ _ h => h) (Or.inl ⟨by kernel_rfl, fun w hSw => by first | (go_simp; done) | (dsimp only at hSw; obtain ⟨s0, s1, s2, s3, s4, s5, s6, s7, s8, s9, s10, s11⟩ := hSw; go_simp; done) | rfl⟩) (by assumption) ?_
  simp only [Act.put, List.getElem_toArray, List.getElem_cons_succ, List.getElem_cons_zero, List.setIfInBounds_toArray, List.set_cons_succ, List.set_cons_zero]
  refine wpAnyH_ready (rs := [23]) (by kernel_rfl) (by simp) ?_
  refine AllReadyH.cons rfl (fun K hK => ?_) AllReadyH.nil
  go_simp
  go_wp2_with ((go_at_call 27; (with_reducible refine (HGS.out _ ?_ ?_).mono ?_); (exact HI7.out _ K7); (exact HI8.out _ K7); rintro e u8 ⟨x10, rfl, E10, L8⟩; have K8 := join_below K7 L8))
  refine hK.out _ _ ?_ (fun hHeld2 => ?_)
  · exact HS.out _ K8
  clear hK K hHeld
  have hHeld := hHeld2
  clear hHeld2
  refine wpAnyH_take (i := 24) (v := .slice x10.b o9.sl.length x10.d) rfl (by kernel_rfl) (by kernel_rfl) (by kernel_rfl) (fun _ _ _ h => h) (Or.inl ⟨by kernel_rfl, fun w hSw => by first | (go_simp; done) | (dsimp only at hSw; obtain ⟨s0, s1, s2, s3, s4, s5, s6, s7, s8, s9, s10, s11⟩ := hSw; go_simp; done) | rfl⟩) (by assumption) ?_
  simp only [Act.put, List.getElem_toArray, List.getElem_cons_succ, List.getElem_cons_zero, List.setIfInBounds_toArray, List.set_cons_succ, List.set_cons_zero]
  refine wpAnyH_ready (rs := [25]) (by kernel_rfl) (by simp) ?_
  refine AllReadyH.cons rfl (fun K hK => ?_) AllReadyH.nil
  go_simp
  go_wp2_with ((go_at_call 8; (with_reducible refine (sameControls_same x9.b x10.b o9.sl x9.d x10.d _ HL9.out ?_ E10.in.seen).mono ?_); (exact (E9.on L8).in.seen); rintro e u9 ⟨rfl, G9⟩; have K9 := join_below K8 (G9.below _)))
  refine hK.out _ _ ?_ (fun hHeld2 => ?_)
  · exact HS.out _ K9
  clear hK K hHeld
  have hHeld := hHeld2
  clear hHeld2
  refine wpAnyH_take (i := 26) (v := .bool false) rfl (by kernel_rfl) (by kernel_rfl) (by kernel_rfl) (fun _ _ _ h => h) (Or.inl ⟨by kernel_rfl, fun w hSw => by first | (go_simp; done) | (dsimp only at hSw; obtain ⟨s0, s1, s2, s3, s4, s5, s6, s7, s8, s9, s10, s11⟩ := hSw; go_simp; done) | rfl⟩) (by assumption) ?_
  simp only [Act.put, List.getElem_toArray, List.getElem_cons_succ, List.getElem_cons_zero, List.setIfInBounds_toArray, List.set_cons_succ, List.set_cons_zero]
  refine wpAnyH_take (i := 27) (v := .bool false) rfl (by kernel_rfl) (by kernel_rfl) (by kernel_rfl) (fun _ _ _ h => h) (Or.inl ⟨by kernel_rfl, fun w hSw => by first | (go_simp; done) | (dsimp only at hSw; obtain ⟨s0, s1, s2, s3, s4, s5, s6, s7, s8, s9, s10, s11⟩ := hSw; go_simp; done) | rfl⟩) (by assumption) ?_
  simp only [Act.put, List.getElem_toArray, List.getElem_cons_succ, List.getElem_cons_zero, List.setIfInBounds_toArray, List.set_cons_succ, List.set_cons_zero]
  refine wpAnyH_done (by kernel_rfl) ?_ _
  have LV := K9
  clear HI5 HI6 HI7 HI8 HS HDI HDS HMI HMS HGI HGS HL9 HLD HLM hHeld
  clear D5 D6 D7 D8 q5 q6 q7 q8 BY E9 E10
  replace BL := join_below BL LV
  replace D := D.on LV
  replace q1 := kept LV (lt_of q1) q1
  replace E3 := E3.on LV
  replace q3 := kept LV (lt_of q3) q3
  cases rb
  · have hoo : o = o3 := HO3.out
    have a0 : u9.cell? ⟨P3, 0, none⟩ = some (.int .i64 o3.ve) := cell_at q3 0
    have a1 : u9.cell? ⟨P3, 1, none⟩ = some (.slice y3.a o3.ol.length y3.c) := cell_at q3 1
    have b0 : u9.cell? ⟨P1, 0, none⟩ = some (.int .i64 o.ve) := cell_at q1 0
    have b1 : u9.cell? ⟨P1, 1, none⟩ = some (.slice y.a o.ol.length y.c) := cell_at q1 1
    subst hoo
    go_wp2_with fail
    refine (sameInts_same y3.a y.a o.ol y3.c y.c u9 HZ3.out.1 E3.in.off D.cp.in.off).mono ?_
    rintro e w8 ⟨rfl, DR⟩
    have L := DR.below u9.heap.size
    clear DR a0 a1 b0 b1
    replace BL := join_below BL L
    replace D := D.on L
    replace q1 := kept L (lt_of q1) q1
    replace E3 := E3.on L
    replace q3 := kept L (lt_of q3) q3
    have a0 : w8.cell? ⟨P3, 0, none⟩ = some (.int .i64 o.ve) := cell_at q3 0
    have b0 : w8.cell? ⟨P1, 0, none⟩ = some (.int .i64 o.ve) := cell_at q1 0
    go_wp2
    go_ret
    exact ⟨rfl, BL⟩
  · have hoo : o3 = ⟨wrap64 (o.ve + 1), insI id o.ol, o.sl⟩ := HO3.out.symm
    have HAG : Hid (revB o3 id = false) := by show _ = _; rw [hoo]; exact rev_again HRB.out
    have HOF : Hid (offB o3.ol = true) := by show _ = _; rw [hoo]; exact rev_off HRB.out
    have HLE : Hid (o3.ol.length = o.ol.length + 1) := by show _ = _; rw [hoo]; exact ins_len id o.ol
    have HVE : Hid (o3.ve = wrap64 (o.ve + 1)) := by show _ = _; rw [hoo]
    clear hoo
    have HR3 := implRev_at y3 o3 id u9 HZ3.out.1 HZ3.out.2 E3.in ⟨by obtain ⟨g, e⟩ := own_some E3.off (by rw [HLE.out]; omega); exact ⟨g, 0, e⟩, E3.fl.2⟩
    rw [HAG.out, rev_no] at HR3
    have a0 : u9.cell? ⟨P3, 0, none⟩ = some (.int .i64 o3.ve) := cell_at q3 0
    have a1 : u9.cell? ⟨P3, 1, none⟩ = some (.slice y3.a o3.ol.length y3.c) := cell_at q3 1
    have a2 : u9.cell? ⟨P3, 2, none⟩ = some (.slice y3.b o3.sl.length y3.d) := cell_at q3 2
    go_wp2_with fail
    refine HR3.mono ?_
    rintro e w8 ⟨y9, rfl, E9, L⟩
    clear HR3 a0 a1 a2 E9
    replace BL := join_below BL L
    replace D := D.on L
    replace q1 := kept L (lt_of q1) q1
    replace E3 := E3.on L
    replace q3 := kept L (lt_of q3) q3
    clear L
    have NA := new_below w8 (ceB y9 o3 27)
    have qq := heap_new w8 (ceB y9 o3 27)
    replace BL := join_below BL NA
    replace D := D.on NA
    replace q1 := kept NA (lt_of q1) q1
    replace E3 := E3.on NA
    replace q3 := kept NA (lt_of q3) q3
    clear NA
    have a0 : (w8.alloc (ceB y9 o3 27)).cell? ⟨P3, 0, none⟩ = some (.int .i64 o3.ve) := cell_at q3 0
    have a1 : (w8.alloc (ceB y9 o3 27)).cell? ⟨P3, 1, none⟩ = some (.slice y3.a o3.ol.length y3.c) := cell_at q3 1
    have a2 : (w8.alloc (ceB y9 o3 27)).cell? ⟨P3, 2, none⟩ = some (.slice y3.b o3.sl.length y3.d) := cell_at q3 2
    have b0 : (w8.alloc (ceB y9 o3 27)).cell? ⟨P1, 0, none⟩ = some (.int .i64 o.ve) := cell_at q1 0
    have b1 : (w8.alloc (ceB y9 o3 27)).cell? ⟨P1, 1, none⟩ = some (.slice y.a o.ol.length y.c) := cell_at q1 1
    have b2 : (w8.alloc (ceB y9 o3 27)).cell? ⟨P1, 2, none⟩ = some (.slice y.b o.sl.length y.d) := cell_at q1 2
    rw [HVE.out] at a0
    have hd2 : decide ((o3.ol.length : Int) = (o.ol.length : Int) + 1) = true := decide_eq_true (by have := HLE.out; omega)
    have hw2 : wrap64 ((o.ol.length : Int) + 1) = (o.ol.length : Int) + 1 := by have := D.nl; unfold wrap64; omega
    have hw3 : IntKind.i64.wrap ((o.ol.length : Int) + 1) = (o.ol.length : Int) + 1 := by have := D.nl; clear hw2; rw [IntKind.wrap_i64]; omega
    have hw4 : IntKind.i64.wrap (o.ve + 1) = wrap64 (o.ve + 1) := w64 _
    have HOV := implOff_val y3.a o3.ol y3.c (w8.alloc (ceB y9 o3 27)) HZ3.out.1 E3.in.off
    rw [HOF.out] at HOV
    go_wp2_with fail
    refine HOV.mono ?_
    rintro e w9 ⟨rfl, rfl⟩
    go_wp2
    go_ret
    exact ⟨rfl, BL⟩
    all_goals (rename_i hne; exact absurd (by have := HLE.out; omega) hne)

end Hn
end Go.Proofs.Ytbmfhdlbbaabgaa

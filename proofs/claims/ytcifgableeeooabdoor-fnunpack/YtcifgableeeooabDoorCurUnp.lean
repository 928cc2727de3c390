/- The draw of a text to be unpacked: some text. -/
import Derived.Test.YtcifgableeeooabDoorCurPk
namespace Go.Proofs.YtcifgableeeooabDoor
namespace Cur
open Go.ChangeShapes Go.WideShapes Go.ChangeAt Go.RowKit
set_option linter.unusedSimpArgs false
set_option linter.unusedVariables false

theorem set_size (s : ByteArray) (k : Nat) (v : UInt8) : (ByteArray.mk (s.data.toList.set k v).toArray).size = s.size := by
  show (s.data.toList.set k v).toArray.size = _
  rw [List.size_toArray, List.length_set, Array.length_toList]
  rfl

theorem back_plain (w : World) (s : ByteArray) (g cp k u : Nat) (hu : u < 256) (hk : k < s.size) (hc : ∀ j (hj : j < s.size), w.cell? ⟨g, j, none⟩ = some (.int .u8 (s[j].toNat : Int)) ∧ w.frozen? ⟨g, j, none⟩ = false) :
    (convert 22 9 (.slice (some ⟨g, 0, none⟩) s.size cp)).run Tryd.prog (w.setCell ⟨g, k, none⟩ (.int .u8 (u : Int))) = .ok (.string ⟨(s.data.toList.set k (UInt8.ofNat u)).toArray⟩) (w.setCell ⟨g, k, none⟩ (.int .u8 (u : Int))) := by
  have hn : (UInt8.ofNat u).toNat = u := UInt8.toNat_ofNat_of_lt' (by simpa using (show u < 256 by omega))
  have hl : (s.data.toList.set k (UInt8.ofNat u)).length = s.size := by rw [List.length_set, Array.length_toList]; rfl
  rw [← hl]
  refine run_convert_bytes_back _ 22 9 5 ⟨g, 0, none⟩ cp (s.data.toList.set k (UInt8.ofNat u)) Tryd.underlying22 Tryd.underlying5 Tryd.underlying9 ?_
  intro j hj0
  have hj : j < s.size := by omega
  rw [show Addr.add ⟨g, 0, none⟩ j = ⟨g, j, none⟩ from by simp [Addr.add]; exact Eq.symm]
  by_cases e : j = k
  · subst e
    rw [World.cell?_setCell_same _ _ _ (hc j hj).1, List.getElem_set_self, hn]
  · rw [World.cell?_setCell_other _ _ _ _ (by intro h; apply e; simpa using h.symm), (hc j hj).1, List.getElem_set_ne (by omega)]
    rfl

set_option maxRecDepth 100000 in
set_option maxHeartbeats 4000000 in
theorem drawUnpack (W0 : World) (a : Option Addr) (n cap : Nat) (hn : n ≤ 1048576) (B : Bytes W0 a n) :
    Calls Tryd.prog 19 #[.slice a n cap] W0 fun e w' => (∃ s : ByteArray, e = .returned (.string s) ∧ s.size ≤ 5000) ∧ Below W0.heap.size W0 w' := by
  go_enter Tryd.func19, Tryd.ntmps19
  go_wp2_with fail
  refine (new_any W0 a n cap hn B).mono ?_
  rintro e w1 ⟨rfl, C1⟩
  go_wp2_with fail
  refine (below_any C1 60).mono ?_
  rintro e w2 ⟨⟨x, rfl, hx0, hx1⟩, C2, -⟩
  have hx2 := hx1 (by omega)
  obtain ⟨k, rfl⟩ := Int.eq_ofNat_of_zero_le hx0
  clear hx1 hx0 C1
  go_wp2_with fail
  refine (plain_any C2 k (by omega)).mono ?_
  rintro e w3 ⟨⟨p, rfl, hp⟩, C3⟩
  have hp3 : p.size ≤ 3000 := by omega
  have hb1 := Math.packS_bound p hp3
  have hz := Math.stored_size p hp3
  have hb2 : 1 ≤ (Pk.packS p).size ∧ (Pk.packS p).size ≤ 4000 := by omega
  have hz2 : 1 ≤ (Pk.storedS p).size ∧ (Pk.storedS p).size ≤ 4000 := by omega
  have hpm : p.size ≤ maxLen := by unfold maxLen; omega
  clear C2 hp hb1 hz
  go_wp2_with fail
  refine (Pk.specPack_val p _ hpm).mono ?_
  rintro e w4 ⟨rfl, L4⟩
  have C4 := C3.on L4
  clear C3 L4
  have HST : Hid (∀ W : World, _) := fun W => Pk.specStored_val p W hpm
  generalize Pk.packS p = S at *
  generalize Pk.storedS p = S2 at *
  generalize decide (p.size ≤ 3000) = D at *
  go_wp2_with fail
  refine (once_any C4 4).mono ?_
  rintro e w5 ⟨⟨b, rfl⟩, C5, -⟩
  clear C4
  obtain ⟨hs1, hs2⟩ := hb2
  obtain ⟨hs3, hs4⟩ := hz2
  cases b
  · clear HST hs3 hs4
    go_wp2_with fail
    refine (below_any C5 (S.size : Int)).mono ?_
    rintro e w6 ⟨⟨x, rfl, hx0, hx1⟩, C6, -⟩
    have hx2 := hx1 (by omega)
    obtain ⟨i, rfl⟩ := Int.eq_ofNat_of_zero_le hx0
    clear hx1 hx0 C5
    go_wp2_with fail
    refine (below_any C6 8).mono ?_
    rintro e w7 ⟨⟨y, rfl, hy0, hy1⟩, C7, -⟩
    have hy2 := hy1 (by omega)
    clear hy1 C6
    have hi0 : (0 : Int) ≤ (i : Int) := by omega
    have hi1 : (i : Int) ≤ (S.size : Int) := by omega
    by_cases y0 : y = 0
    · subst y0
      go_wp2
      go_ret
      exact ⟨⟨_, rfl, by rw [ByteArray.size_extract]; omega⟩, C7.below⟩
    by_cases y1 : y = 1
    · subst y1
      have HBY : Hid (∀ _ : Unit, _) := fun _ => bytes_any C7 1 (by omega)
      rw [show ((1 : Nat) : Int) = 1 from rfl] at HBY
      go_wp2_with fail
      refine (HBY.out ()).mono ?_
      rintro e w8 ⟨⟨d, rfl, hd⟩, C8⟩
      have hq : ¬ 9223372036854775807 < S.size + d.size := by omega
      go_wp2
      go_ret
      exact ⟨⟨_, rfl, by rw [ByteArray.size_append]; omega⟩, C8.below⟩
    by_cases y2 : y = 2 ∨ y = 3
    · obtain ⟨g, cp, w8, hrun, hg0, hg1, L8, hcells⟩ := to_bytes w7 S
      have C8 := C7.on L8
      have hgc : g ≠ W0.heap.size := by have := C7.lt; omega
      have HC : Hid (∀ j (hj : j < S.size), w8.cell? ⟨g, j, none⟩ = some (.int .u8 (S[j].toNat : Int)) ∧ w8.frozen? ⟨g, j, none⟩ = false) := hcells
      clear hcells
      have hiS : i < S.size := by omega
      rcases y2 with rfl | rfl
      all_goals
        go_wp2_with fail
        refine (below_any C8 256).mono ?_
        rintro e w9 ⟨⟨v, rfl, hv0, hv1⟩, C9, M9⟩
        have hv2 := hv1 (by omega)
        obtain ⟨u, rfl⟩ := Int.eq_ofNat_of_zero_le hv0
        have hu : (UInt8.ofNat u).toNat = u := UInt8.toNat_ofNat_of_lt' (by simpa using (show u < 256 by omega))
        have hcells : ∀ j (hj : j < S.size), w9.cell? ⟨g, j, none⟩ = some (.int .u8 (S[j].toNat : Int)) ∧ w9.frozen? ⟨g, j, none⟩ = false := fun j hj => ⟨by rw [M9.cell (p := ⟨g, j, none⟩) hgc]; exact (HC.out j hj).1, by rw [M9.frozen (p := ⟨g, j, none⟩) hgc]; exact (HC.out j hj).2⟩
        have hci := (hcells i hiS).1
        have hfi := (hcells i hiS).2
        have hback := back_set w9 S g cp i (UInt8.ofNat u) hiS hcells
        rw [hu] at hback
        have hbk2 : (convert 22 9 (.slice (some ⟨g, 0, none⟩) S.size cp)).run Tryd.prog (w9.setCell ⟨g, i, none⟩ (.int .u8 (u : Int))) = .ok (.string ⟨(S.data.toList.set i (UInt8.ofNat u)).toArray⟩) (w9.setCell ⟨g, i, none⟩ (.int .u8 (u : Int))) := back_plain w9 S g cp i u (by omega) hiS hcells
        have C10 := C9.set g i (.int .u8 (u : Int)) hgc (by have := C7.below.size; omega)
        have hwu : IntKind.u8.wrap (u : Int) = (u : Int) := by rw [IntKind.wrap_u8]; omega
        have HSZ : Hid (_) := set_size S i (UInt8.ofNat u)
        clear hcells hv1 C8 HC
        go_wp2
        go_ret
        exact ⟨⟨_, rfl, by rw [HSZ.out]; omega⟩, by first | exact C10.below | exact (C10.drewN 1).below⟩
    by_cases y4 : y = 4
    · subst y4
      go_wp2_with fail
      refine (below_any C7 12).mono ?_
      rintro e w8 ⟨⟨v, rfl, hv0, hv1⟩, C8, -⟩
      have hv2 := hv1 (by omega)
      obtain ⟨u, rfl⟩ := Int.eq_ofNat_of_zero_le hv0
      clear hv1
      go_wp2_with fail
      refine (bytes_any C8 u (by omega)).mono ?_
      rintro e w9 ⟨⟨d, rfl, hd⟩, C9⟩
      have HD : Hid (d.size = u) := hd
      clear hd
      go_wp2
      go_ret
      exact ⟨⟨_, rfl, by rw [HD.out]; omega⟩, C9.below⟩
    have z0 : (y == 0) = false := beq_eq_false_iff_ne.2 y0
    have z1 : (y == 1) = false := beq_eq_false_iff_ne.2 y1
    have z2 : (y == 2) = false := beq_eq_false_iff_ne.2 (by omega)
    have z3 : (y == 3) = false := beq_eq_false_iff_ne.2 (by omega)
    have z4 : (y == 4) = false := beq_eq_false_iff_ne.2 y4
    clear y0 y1 y2 y4
    go_wp2
    go_ret
    exact ⟨⟨S, rfl, by omega⟩, C7.below⟩
  · clear hs1 hs2
    go_wp2_with fail
    refine (HST.out _).mono ?_
    rintro e w5b ⟨rfl, L5⟩
    have C5b := C5.on L5
    clear C5 L5 HST
    go_wp2_with fail
    refine (below_any C5b (S2.size : Int)).mono ?_
    rintro e w6 ⟨⟨x, rfl, hx0, hx1⟩, C6, -⟩
    have hx2 := hx1 (by omega)
    obtain ⟨i, rfl⟩ := Int.eq_ofNat_of_zero_le hx0
    clear hx1 hx0 C5b
    go_wp2_with fail
    refine (below_any C6 8).mono ?_
    rintro e w7 ⟨⟨y, rfl, hy0, hy1⟩, C7, -⟩
    have hy2 := hy1 (by omega)
    clear hy1 C6
    have hi0 : (0 : Int) ≤ (i : Int) := by omega
    have hi1 : (i : Int) ≤ (S2.size : Int) := by omega
    by_cases y0 : y = 0
    · subst y0
      go_wp2
      go_ret
      exact ⟨⟨_, rfl, by rw [ByteArray.size_extract]; omega⟩, C7.below⟩
    by_cases y1 : y = 1
    · subst y1
      have HBY : Hid (∀ _ : Unit, _) := fun _ => bytes_any C7 1 (by omega)
      rw [show ((1 : Nat) : Int) = 1 from rfl] at HBY
      go_wp2_with fail
      refine (HBY.out ()).mono ?_
      rintro e w8 ⟨⟨d, rfl, hd⟩, C8⟩
      have hq : ¬ 9223372036854775807 < S2.size + d.size := by omega
      go_wp2
      go_ret
      exact ⟨⟨_, rfl, by rw [ByteArray.size_append]; omega⟩, C8.below⟩
    by_cases y2 : y = 2 ∨ y = 3
    · obtain ⟨g, cp, w8, hrun, hg0, hg1, L8, hcells⟩ := to_bytes w7 S2
      have C8 := C7.on L8
      have hgc : g ≠ W0.heap.size := by have := C7.lt; omega
      have HC : Hid (∀ j (hj : j < S2.size), w8.cell? ⟨g, j, none⟩ = some (.int .u8 (S2[j].toNat : Int)) ∧ w8.frozen? ⟨g, j, none⟩ = false) := hcells
      clear hcells
      have hiS : i < S2.size := by omega
      rcases y2 with rfl | rfl
      all_goals
        go_wp2_with fail
        refine (below_any C8 256).mono ?_
        rintro e w9 ⟨⟨v, rfl, hv0, hv1⟩, C9, M9⟩
        have hv2 := hv1 (by omega)
        obtain ⟨u, rfl⟩ := Int.eq_ofNat_of_zero_le hv0
        have hu : (UInt8.ofNat u).toNat = u := UInt8.toNat_ofNat_of_lt' (by simpa using (show u < 256 by omega))
        have hcells : ∀ j (hj : j < S2.size), w9.cell? ⟨g, j, none⟩ = some (.int .u8 (S2[j].toNat : Int)) ∧ w9.frozen? ⟨g, j, none⟩ = false := fun j hj => ⟨by rw [M9.cell (p := ⟨g, j, none⟩) hgc]; exact (HC.out j hj).1, by rw [M9.frozen (p := ⟨g, j, none⟩) hgc]; exact (HC.out j hj).2⟩
        have hci := (hcells i hiS).1
        have hfi := (hcells i hiS).2
        have hback := back_set w9 S2 g cp i (UInt8.ofNat u) hiS hcells
        rw [hu] at hback
        have hbk2 : (convert 22 9 (.slice (some ⟨g, 0, none⟩) S2.size cp)).run Tryd.prog (w9.setCell ⟨g, i, none⟩ (.int .u8 (u : Int))) = .ok (.string ⟨(S2.data.toList.set i (UInt8.ofNat u)).toArray⟩) (w9.setCell ⟨g, i, none⟩ (.int .u8 (u : Int))) := back_plain w9 S2 g cp i u (by omega) hiS hcells
        have C10 := C9.set g i (.int .u8 (u : Int)) hgc (by have := C7.below.size; omega)
        have hwu : IntKind.u8.wrap (u : Int) = (u : Int) := by rw [IntKind.wrap_u8]; omega
        have HSZ : Hid (_) := set_size S2 i (UInt8.ofNat u)
        clear hcells hv1 C8 HC
        go_wp2
        go_ret
        exact ⟨⟨_, rfl, by rw [HSZ.out]; omega⟩, by first | exact C10.below | exact (C10.drewN 1).below⟩
    by_cases y4 : y = 4
    · subst y4
      go_wp2_with fail
      refine (below_any C7 12).mono ?_
      rintro e w8 ⟨⟨v, rfl, hv0, hv1⟩, C8, -⟩
      have hv2 := hv1 (by omega)
      obtain ⟨u, rfl⟩ := Int.eq_ofNat_of_zero_le hv0
      clear hv1
      go_wp2_with fail
      refine (bytes_any C8 u (by omega)).mono ?_
      rintro e w9 ⟨⟨d, rfl, hd⟩, C9⟩
      have HD : Hid (d.size = u) := hd
      clear hd
      go_wp2
      go_ret
      exact ⟨⟨_, rfl, by rw [HD.out]; omega⟩, C9.below⟩
    have z0 : (y == 0) = false := beq_eq_false_iff_ne.2 y0
    have z1 : (y == 1) = false := beq_eq_false_iff_ne.2 y1
    have z2 : (y == 2) = false := beq_eq_false_iff_ne.2 (by omega)
    have z3 : (y == 3) = false := beq_eq_false_iff_ne.2 (by omega)
    have z4 : (y == 4) = false := beq_eq_false_iff_ne.2 y4
    clear y0 y1 y2 y4
    go_wp2
    go_ret
    exact ⟨⟨S2, rfl, by omega⟩, C7.below⟩

end Cur
end Go.Proofs.YtcifgableeeooabDoor

/- Contracts of the draws of texts of chapter 3. -/
import Derived.Test.YtcifgableeeooabDoorCurBytes
import Derived.Test.YtcifgableeeooabDoorPkRow
namespace Go.Proofs.YtcifgableeeooabDoor
namespace Cur
open Go.ChangeShapes Go.WideShapes Go.ChangeAt Go.RowKit
set_option linter.unusedSimpArgs false
set_option linter.unusedVariables false

def lenV : Value → Nat
  | .slice _ n _ => n
  | _ => 0

/-- What only makes new blocks is no part of the cursor. -/
theorem Is.on {W0 : World} {a : Option Addr} {n cap c : Nat} {w w1 : World} (C : Is W0 a n cap c w) (hb : Below w.heap.size w w1) : Is W0 a n cap c w1 := by
  refine ⟨C.below.trans (hb.mono C.below.size), C.ge, Nat.lt_of_lt_of_le C.lt hb.size, C.len, C.code, ?_, ?_, ?_, ?_, ?_⟩
  · rw [hb.cell (p := ⟨c, 0, none⟩) C.lt]; exact C.cb
  · obtain ⟨i, h1, h2⟩ := C.ci
    exact ⟨i, h1, by rw [hb.cell (p := ⟨c, 1, none⟩) C.lt]; exact h2⟩
  · obtain ⟨h0, h2⟩ := C.ch
    exact ⟨h0, by rw [hb.cell (p := ⟨c, 2, none⟩) C.lt]; exact h2⟩
  · rw [hb.frozen (p := ⟨c, 1, none⟩) C.lt]; exact C.fi
  · rw [hb.frozen (p := ⟨c, 2, none⟩) C.lt]; exact C.fh

/-- The text of the first bytes of an owned row. -/
theorem conv_take {w : World} {base g cp m : Nat} {l : List UInt8} (h : w.ownsRow base 5 1 (.slice (some ⟨g, 0, none⟩) m cp) m (bcells l)) (k : Nat) (hk : k ≤ m) :
    (convert 22 9 (.slice (some ⟨g, 0, none⟩) k cp)).run Tryd.prog w = .ok (.string ⟨(l.take k).toArray⟩) w := by
  have h' := h
  obtain ⟨hl, h2⟩ := h
  have hln : l.length = m := by simpa [bcells] using hl
  have hlk : (l.take k).length = k := by rw [List.length_take]; omega
  have key := run_convert_bytes_back w 22 9 5 ⟨g, 0, none⟩ cp (l.take k) Tryd.underlying22 Tryd.underlying5 Tryd.underlying9 ?_
  · rw [hlk] at key
    exact key
  intro j hj
  rw [hlk] at hj
  rw [show Addr.add ⟨g, 0, none⟩ j = ⟨g, j, none⟩ from by simp [Addr.add]; exact Eq.symm]
  obtain ⟨g', cap', e1, -, -, u, hu, hc⟩ := Pk.own_at h' j (by omega)
  simp only [Value.slice.injEq, Option.some.injEq, Addr.mk.injEq] at e1
  rw [e1.1.1, hc, ← hu]
  simp [bcells, show j < l.length by omega]

theorem own_nil {w : World} {base e size : Nat} {v : Value} {n : Nat} {xs : List Value} (h : w.ownsRow base e size v n xs) (hv : v ≠ .slice none 0 0) : ∃ g cap, v = .slice (some ⟨g, 0, none⟩) n cap := by
  obtain ⟨-, h2⟩ := h
  rcases h2 with ⟨h0, -⟩ | ⟨g, cap, cur, h1, -⟩
  · exact absurd h0 hv
  · exact ⟨g, cap, h1⟩

theorem seven (p : Int → Prop) (w : World) (x : Int) (h : p 97 ∧ p 98 ∧ p 99 ∧ p 32 ∧ p 200 ∧ p 255 ∧ p x) : RowOf p (w.alloc (.cells #[.int .i64 97, .int .i64 98, .int .i64 99, .int .i64 32, .int .i64 200, .int .i64 255, .int .i64 x] 3)) w.heap.size 7 := by
  have := rowOf_new p w [97, 98, 99, 32, 200, 255, x] 3 (by
    intro z hz
    simp at hz
    rcases hz with rfl | rfl | rfl | rfl | rfl | rfl | rfl
    · exact h.1
    · exact h.2.1
    · exact h.2.2.1
    · exact h.2.2.2.1
    · exact h.2.2.2.2.1
    · exact h.2.2.2.2.2.1
    · exact h.2.2.2.2.2.2)
  exact this

theorem bcells_at (l : List UInt8) (i : Nat) (h : i < l.length) : (bcells l)[i]? = some (.int .u8 (l[i].toNat : Int)) := by simp [bcells, h]

set_option maxRecDepth 100000 in
set_option maxHeartbeats 2000000 in
theorem plain_any {W0 : World} {a : Option Addr} {n cap c : Nat} {w : World} (C : Is W0 a n cap c w) (m : Nat) (hm : m ≤ 10000) :
    Calls Tryd.prog 63 #[.pointer (some ⟨c, 0, none⟩), .int .i64 m] w fun e w' => (∃ s : ByteArray, e = .returned (.string s) ∧ s.size = m) ∧ Is W0 a n cap c w' := by
  have hlt := C.lt
  have hge := C.below.size
  obtain ⟨i0, hi, hz0, hz1, hz2⟩ := info_parts Tryd.info5
  go_enter Tryd.func63, Tryd.ntmps63
  go_wp2
  go_loopw [5] (fun v wr => ∃ (k : Nat) (l : List UInt8), k ≤ 20000 ∧ Hid (l.length = k) ∧ wr.ownsRow w.heap.size 5 1 v k (bcells l) ∧ Is W0 a n cap c wr ∧ w.heap.size ≤ wr.heap.size ∧ Hid (v ≠ .slice none 0 0)) (fun v _ => m - lenV v)
  case atStart => exact ⟨0, [], by omega, rfl, ⟨rfl, Or.inr ⟨w.heap.size, 0, #[], rfl, Nat.le_refl _, (MapKept.heap_alloc w _).1, by omega, by unfold maxLen; omega, rfl, rfl⟩⟩, C.alloc _, by simp, by show _ ≠ _; intro h; cases h⟩
  case round =>
    obtain ⟨k, l, hk, HL, hown, Cr, hsz, HV⟩ := hrel
    obtain ⟨g, cp, rfl⟩ := own_nil hown HV.out
    by_cases hkm : k < m
    · have tail : Hid (∀ wx, wx.ownsRow w.heap.size 5 1 (.slice (some ⟨g, 0, none⟩) k cp) k (bcells l) → Is W0 a n cap c wx → w.heap.size ≤ wx.heap.size → True) := fun _ _ _ _ => trivial
      clear tail
      by_cases hk4 : 4 < k
      · go_wp2_with fail
        refine (once_any Cr _).mono ?_
        rintro e w1 ⟨⟨o, rfl⟩, C1, M1⟩
        have hown1 := owns_moved hown M1 hlt
        have hsz1 : w.heap.size ≤ w1.heap.size := by rw [M1.size]; exact hsz
        clear hown M1 Cr hsz
        cases o
        · go_wp2_with fail
          refine (below_any C1 _).mono ?_
          rintro e w2 ⟨⟨x, rfl, hx0, hx1⟩, C2, M2⟩
          have hx2 := hx1 (by omega)
          have hown2 := owns_moved hown1 M2 hlt
          have hsz2 : w.heap.size ≤ w2.heap.size := by rw [M2.size]; exact hsz1
          have R2 := seven (fun z => 0 ≤ z ∧ z ≤ 255) w2 x (by omega)
          have C3 := C2.alloc (.cells #[.int .i64 97, .int .i64 98, .int .i64 99, .int .i64 32, .int .i64 200, .int .i64 255, .int .i64 x] 3)
          have hown3 := hown2.alloc (.cells #[.int .i64 97, .int .i64 98, .int .i64 99, .int .i64 32, .int .i64 200, .int .i64 255, .int .i64 x] 3)
          have hc2 := C2.lt
          clear hx1 hown1 M2 C1 hown2 C2
          go_wp2_with fail
          refine (pickInt_any C3 (fun z => 0 ≤ z ∧ z ≤ 255) w2.heap.size 7 7 (by omega) (by omega) (by omega) R2).mono ?_
          rintro e w4 ⟨⟨y, rfl, hy⟩, C4, M4⟩
          have hown4 := owns_moved hown3 M4 hlt
          have hsz4 : w.heap.size ≤ w4.heap.size := by rw [M4.size]; simp; omega
          obtain ⟨hy0, hy1⟩ := hy
          clear hown3 M4 C3 R2 hsz2 hsz1
          go_wp2_with (at_builtin; refine wpList_append_own _ rfl _ _ 22 rfl w.heap.size 5 i0 (.int .u8 0) 1 1 Tryd.underlying22 hi hz0 hz1 hz2 rfl (by decide) _ _ _ rfl (hown4.alloc _) ⟨w4.heap.size, 0, none⟩ 1 1 [.int .u8 y] rfl rfl ?c11 ?c12 ?c13 ?c14 ?c15 ?_)
          try (case c11 => exact cell_one_new _ _ _)
          case c12 => first | (intro u hu; simp at hu; subst hu; rfl) | rfl | (simp; done)
          case c13 => unfold maxLen; omega
          case c14 => omega
          case c15 => first | omega | (simp; omega)
          intro v' w5 hown5 hgrow hnil
          have HV5 : Hid (v' ≠ .slice none 0 0) := by show _ ≠ _; intro h; first | exact hnil h | (have := (hnil.1 h).2; omega)
          have hb3 := own_block hown4
          have C5 : Is W0 a n cap c w5 := (C4.alloc _).grown hgrow (fun h => by have := hb3 _ h; omega) (fun k h => by have := hb3 _ h; omega)
          rw [bcells_snoc l y hy0 hy1] at hown5
          have hsz5 := hgrow.size
          rw [World.size_alloc] at hsz5
          have HL5 : Hid ((l ++ [UInt8.ofNat y.toNat]).length = k + 1) := by show _ = _; rw [List.length_append, HL.out]; rfl
          obtain ⟨g5, cp5, rfl⟩ := own_nil hown5 HV5.out
          clear hown4 hgrow C4 hb3 hnil
          go_wp2
          go_roundw
          case rel => exact ⟨k + 1, l ++ [UInt8.ofNat y.toNat], by omega, HL5, hown5, C5, by omega, HV5⟩
          case measure => simp [lenV]; omega
        · go_wp2_with fail
          refine (below_any C1 _).mono ?_
          rintro e w2 ⟨⟨x, rfl, hx0, hx1⟩, C2, M2⟩
          have hx2 := hx1 (by omega)
          have hown2 := owns_moved hown1 M2 hlt
          have hsz2 : w.heap.size ≤ w2.heap.size := by rw [M2.size]; exact hsz1
          obtain ⟨d, rfl⟩ := Int.eq_ofNat_of_zero_le hx0
          clear hx1 hown1 M2 C1
          go_wp2_with fail
          refine (below_any C2 _).mono ?_
          rintro e w3 ⟨⟨y, rfl, hy0, hy1⟩, C3, M3⟩
          have hy2 := hy1 (by omega)
          have hown3 := owns_moved hown2 M3 hlt
          have hsz3 : w.heap.size ≤ w3.heap.size := by rw [M3.size]; exact hsz2
          obtain ⟨q, rfl⟩ := Int.eq_ofNat_of_zero_le hy0
          clear hy1 hown2 M3 C2
          go_wp2
          go_loopw [5, 8] (fun v i wr => ∃ (j : Nat) (l2 : List UInt8), j ≤ q + 2 ∧ i = .int .i64 j ∧ Hid (l2.length = k + j) ∧ wr.ownsRow w.heap.size 5 1 v (k + j) (bcells l2) ∧ Is W0 a n cap c wr ∧ w.heap.size ≤ wr.heap.size ∧ Hid (v ≠ .slice none 0 0)) (fun _ i _ => q + 2 - (intOf i).toNat)
          case atStart => exact ⟨0, l, by omega, rfl, HL, hown3, C3, hsz3, HV⟩
          case round =>
            obtain ⟨j, l2, hj, rfl, HL2, hownj, Cj, hszj, HVj⟩ := hrel
            obtain ⟨g2, cp2, rfl⟩ := own_nil hownj HVj.out
            by_cases hjq : j < q + 2
            · have hd2 : (j : Int) < 2 + (q : Int) := by omega
              obtain ⟨g', cap', he, hg1, hg2, u, hu, hc⟩ := Pk.own_at hownj (k + j - (1 + d)) (by omega)
              simp only [Value.slice.injEq, Option.some.injEq, Addr.mk.injEq] at he
              obtain ⟨⟨rfl, -⟩, -, -⟩ := he
              rw [bcells_at l2 _ (by rw [HL2.out]; omega)] at hu
              simp only [Option.some.injEq] at hu
              subst hu
              have e1 : (k : Int) + (j : Int) - (1 + (d : Int)) = ((k + j - (1 + d) : Nat) : Int) := by omega
              have hpl : ((k + j - (1 + d) : Nat) : Int) < (k : Int) + (j : Int) := by omega
              generalize l2[k + j - (1 + d)]'(by rw [HL2.out]; omega) = b at *
              generalize k + j - (1 + d) = r at *
              have hb := b.toNat_lt
              clear hjq
              go_wp2_with (at_builtin; refine wpList_append_own _ rfl _ _ 22 rfl w.heap.size 5 i0 (.int .u8 0) 1 1 Tryd.underlying22 hi hz0 hz1 hz2 rfl (by decide) _ _ _ rfl (hownj.alloc _) ⟨wr.heap.size, 0, none⟩ 1 1 [.int .u8 b.toNat] rfl rfl ?c1 ?c2 ?c3 ?c4 ?c5 ?_)
              try (case c1 => exact cell_one_new _ _ _)
              case c2 => first | (intro u hu; simp at hu; subst hu; rfl) | rfl | (simp; done)
              case c3 => unfold maxLen; omega
              case c4 => omega
              case c5 => first | omega | (simp; omega)
              intro v' w5 hown5 hgrow hnil
              have HV5 : Hid (v' ≠ .slice none 0 0) := by show _ ≠ _; intro h; first | exact hnil h | (have := (hnil.1 h).2; omega)
              have hb3 := own_block hownj
              have C5 : Is W0 a n cap c w5 := (Cj.alloc _).grown hgrow (fun h => by have := hb3 _ h; omega) (fun k h => by have := hb3 _ h; omega)
              have hsn : bcells l2 ++ [.int .u8 (b.toNat : Int)] = bcells (l2 ++ [b]) := by simp [bcells]
              rw [hsn] at hown5
              have hsz5 := hgrow.size
              rw [World.size_alloc] at hsz5
              have HL5 : Hid ((l2 ++ [b]).length = k + (j + 1)) := by show _ = _; rw [List.length_append, HL2.out]; rfl
              clear hownj hgrow Cj hb3 hnil hsn hc e1 hpl
              go_wp2
              go_roundw
              case rel => exact ⟨j + 1, l2 ++ [b], by omega, by go_num, HL5, hown5, C5, by omega, HV5⟩
              case measure => simp [intOf]; omega
            · obtain rfl : j = q + 2 := by omega
              have e2 : ((q + 2 : Nat) : Int) = 2 + (q : Int) := by omega
              rw [e2]
              go_wp2
              go_roundw
              case rel => exact ⟨k + (q + 2), l2, by omega, HL2, hownj, Cj, hszj, HVj⟩
              case measure => simp [lenV]; omega
      · have hw1 := hown
        go_wp2_with fail
        refine (below_any Cr _).mono ?_
        rintro e w2 ⟨⟨x, rfl, hx0, hx1⟩, C2, M2⟩
        have hx2 := hx1 (by omega)
        have hown2 := owns_moved hown M2 hlt
        have hsz2 : w.heap.size ≤ w2.heap.size := by rw [M2.size]; exact hsz
        have R2 := seven (fun z => 0 ≤ z ∧ z ≤ 255) w2 x (by omega)
        have C3 := C2.alloc (.cells #[.int .i64 97, .int .i64 98, .int .i64 99, .int .i64 32, .int .i64 200, .int .i64 255, .int .i64 x] 3)
        have hown3 := hown2.alloc (.cells #[.int .i64 97, .int .i64 98, .int .i64 99, .int .i64 32, .int .i64 200, .int .i64 255, .int .i64 x] 3)
        have hc2 := C2.lt
        clear hx1 hown M2 Cr hown2 C2 hw1
        go_wp2_with fail
        refine (pickInt_any C3 (fun z => 0 ≤ z ∧ z ≤ 255) w2.heap.size 7 7 (by omega) (by omega) (by omega) R2).mono ?_
        rintro e w4 ⟨⟨y, rfl, hy⟩, C4, M4⟩
        have hown4 := owns_moved hown3 M4 hlt
        have hsz4 : w.heap.size ≤ w4.heap.size := by rw [M4.size]; simp; omega
        obtain ⟨hy0, hy1⟩ := hy
        clear hown3 M4 C3 R2 hsz2 hsz
        go_wp2_with (at_builtin; refine wpList_append_own _ rfl _ _ 22 rfl w.heap.size 5 i0 (.int .u8 0) 1 1 Tryd.underlying22 hi hz0 hz1 hz2 rfl (by decide) _ _ _ rfl (hown4.alloc _) ⟨w4.heap.size, 0, none⟩ 1 1 [.int .u8 y] rfl rfl ?c21 ?c22 ?c23 ?c24 ?c25 ?_)
        try (case c21 => exact cell_one_new _ _ _)
        case c22 => first | (intro u hu; simp at hu; subst hu; rfl) | rfl | (simp; done)
        case c23 => unfold maxLen; omega
        case c24 => omega
        case c25 => first | omega | (simp; omega)
        intro v' w5 hown5 hgrow hnil
        have HV5 : Hid (v' ≠ .slice none 0 0) := by show _ ≠ _; intro h; first | exact hnil h | (have := (hnil.1 h).2; omega)
        have hb3 := own_block hown4
        have C5 : Is W0 a n cap c w5 := (C4.alloc _).grown hgrow (fun h => by have := hb3 _ h; omega) (fun k h => by have := hb3 _ h; omega)
        rw [bcells_snoc l y hy0 hy1] at hown5
        have hsz5 := hgrow.size
        rw [World.size_alloc] at hsz5
        have HL5 : Hid ((l ++ [UInt8.ofNat y.toNat]).length = k + 1) := by show _ = _; rw [List.length_append, HL.out]; rfl
        obtain ⟨g5, cp5, rfl⟩ := own_nil hown5 HV5.out
        clear hown4 hgrow C4 hb3 hnil
        go_wp2
        go_roundw
        case rel => exact ⟨k + 1, l ++ [UInt8.ofNat y.toNat], by omega, HL5, hown5, C5, by omega, HV5⟩
        case measure => simp [lenV]; omega
    · have hconv := conv_take hown m (by omega)
      have HL9 : Hid ((⟨(l.take m).toArray⟩ : ByteArray).size = m) := by
        show (l.take m).length = m
        rw [List.length_take, HL.out]
        omega
      have hmk : (m : Int) ≤ (k : Int) := by omega
      have hkc : k ≤ cp := by
        obtain ⟨-, h2⟩ := hown
        rcases h2 with ⟨hv, -⟩ | ⟨g', cap', cur, hv, hg, hh, h1, -⟩
        · cases hv
        · simp only [Value.slice.injEq] at hv
          omega
      have hmc : (m : Int) ≤ (cp : Int) := by omega
      generalize (⟨(l.take m).toArray⟩ : ByteArray) = S at *
      go_wp2
      go_ret
      exact ⟨⟨S, rfl, HL9.out⟩, Cr⟩

theorem size_any {W0 : World} {a : Option Addr} {n cap c : Nat} {w : World} (C : Is W0 a n cap c w) :
    Calls Tryd.prog 64 #[.pointer (some ⟨c, 0, none⟩)] w fun e w' => (∃ k : Nat, e = .returned (.int .i64 k) ∧ k ≤ 3001) ∧ Is W0 a n cap c w' ∧ Moved c w w' := by
  go_enter Tryd.func64, Tryd.ntmps64
  go_wp2_with fail
  refine (once_any C _).mono ?_
  rintro e w1 ⟨⟨o, rfl⟩, C1, M1⟩
  cases o
  · go_wp2_with fail
    refine (below_any C1 _).mono ?_
    rintro e w2 ⟨⟨x, rfl, hx0, hx1⟩, C2, M2⟩
    have hx2 := hx1 (by omega)
    obtain ⟨k, rfl⟩ := Int.eq_ofNat_of_zero_le hx0
    clear hx1
    go_wp2
    go_ret
    exact ⟨⟨k, rfl, by omega⟩, C2, M1.trans M2⟩
  · go_wp2_with fail
    refine (below_any C1 _).mono ?_
    rintro e w2 ⟨⟨x, rfl, hx0, hx1⟩, C2, M2⟩
    have hx2 := hx1 (by omega)
    obtain ⟨k, rfl⟩ := Int.eq_ofNat_of_zero_le hx0
    clear hx1
    go_wp2
    go_ret
    exact ⟨⟨3000 + k, Pk.ret_int (by omega), by omega⟩, C2, M1.trans M2⟩

end Cur
end Go.Proofs.YtcifgableeeooabDoor

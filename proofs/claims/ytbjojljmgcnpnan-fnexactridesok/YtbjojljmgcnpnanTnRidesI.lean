/- The contract of RidesOk of the program. -/
import Derived.Test.YtbjojljmgcnpnanTnRidesOk
namespace Go.Proofs.Ytbjojljmgcnpnan
namespace Tn
open Go.ChangeShapes Go.WideShapes Go.ChangeAt Go.RowKit
open Pk (new_below join_below cell_at heap_new frozen_at lt_of kept heap_old info_of own_form own_below Room)
open Rd (Ri Rides)
set_option linter.unusedSimpArgs false
set_option linter.unusedVariables false

set_option maxHeartbeats 4000000 in
theorem implRides_val (a : Option Addr) (ts : List Tr) (cap : Nat) (b : Option Addr) (rs : List Ri) (cap2 : Nat) (w : World) (hn : ts.length ≤ 1048576) (hs : ∀ i (h : i < ts.length), ts[i].l.length ≤ 1048576) (hr : rs.length ≤ maxLen) (I : Trains w a ts) (J : Rides w b rs) :
    Calls Try.prog 31 #[.slice a ts.length cap, .slice b rs.length cap2] w fun e w' => e = .returned (.bool (ridesB ts rs)) ∧ Below w.heap.size w w' := by
  have HL : Hid (∀ w, Trains w a ts → _) := fun w I => implLines_val a ts cap w (by unfold maxLen; omega) (fun i h => by have := hs i h; unfold maxLen; omega) I
  have HI : Hid (∀ w, _) := fun w => between_val (rs.length : Int) 1 6 w
  have HT : Hid (∀ r w, Trains w a ts → _) := fun r w I => hopOf_val a ts cap r w hn hs I
  have HO : Hid (ridesB ts rs = (linesB ts && (inB rs.length 1 6 && ridesFrom ts rs 0))) := rfl
  have H16 : Hid (inB (rs.length : Int) 1 6 = true → 1 ≤ (rs.length : Int) ∧ (rs.length : Int) ≤ 6) := inB_yes
  unfold maxLen at hr
  clear hn hs
  generalize ridesB ts rs = R at *
  generalize linesB ts = b1 at *
  generalize inB (rs.length : Int) 1 6 = b2 at *
  go_enter Try.func31, Try.ntmps31
  go_wp2_with fail
  refine (HL.out _ I).mono ?_
  rintro e w1 ⟨rfl, L1⟩
  cases b1
  · go_wp2
    go_ret
    exact ⟨by rw [HO.out] <;> rfl, L1⟩
  go_wp2_with fail
  refine (HI.out _).mono ?_
  rintro e w2 ⟨rfl, rfl⟩
  cases b2
  · go_wp2
    go_ret
    exact ⟨by rw [HO.out] <;> rfl, L1⟩
  have HOK : Hid (R = ridesFrom ts rs 0) := HO.out
  obtain ⟨h1, h6⟩ := H16.out (by simp)
  clear HL HI HO H16
  obtain ⟨x, o, rfl, hlt, -, -, c2, -⟩ := (J.on L1).at 0 (by omega)
  rw [Nat.zero_mul, Nat.add_zero] at c2
  have hst0 : stAt rs 0 = (rs[0]'(by omega)).fr := by unfold stAt; rw [if_pos rfl, getR_at rs 0 (by omega)]
  have hy0 : yAt ts rs 0 = 0 := rfl
  rw [← hst0] at c2
  have x0 := heap_new w2 (.cells #[.int .i64 (stAt rs 0), .int .i64 0, .int .i64 0] 72)
  have LV := join_below L1 (new_below w2 (.cells #[.int .i64 (stAt rs 0), .int .i64 0, .int .i64 0] 72))
  have HV0 : Hid (w.heap.size ≤ w2.heap.size) := L1.size
  have HST : Hid (_ ∧ _) := ⟨hst0, hy0⟩
  clear hst0 hy0
  generalize hs00 : stAt rs 0 = s0 at *
  have HS0 : Hid (s0 = stAt rs 0) := hs00.symm
  clear hs00
  go_wp2
  generalize w2.alloc (.cells #[.int .i64 s0, .int .i64 0, .int .i64 0] 72) = W at *
  generalize w2.heap.size = V at *
  go_loopw [26] (fun i wr => ∃ k : Nat, k ≤ rs.length ∧ i = .int .i64 k ∧ Below w.heap.size w wr ∧ Hid (ridesFrom ts rs 0 = ridesFrom ts rs k) ∧ ∃ s y : Int, wr.heap[V]? = some (.cells #[.int .i64 s, .int .i64 y, .int .i64 k] 72) ∧ Hid (s = stAt rs k ∧ y = yAt ts rs k)) (fun i _ => rs.length - (intOf i).toNat)
  case atStart => exact ⟨0, by omega, rfl, LV, rfl, s0, 0, x0, ⟨HS0.out, rfl⟩⟩
  case round =>
    obtain ⟨k, hk, rfl, L, H, s, y, xV, HSY⟩ := hrel
    by_cases hkn : k < rs.length
    · obtain ⟨x', o', he, hlt', p0, p1, p2, p3⟩ := (J.on L).at k hkn
      simp only [Option.some.injEq, Addr.mk.injEq, and_true] at he
      obtain ⟨rfl, rfl⟩ := he
      have HS : Hid (_) := ridesFrom_step ts rs k hkn
      have HB : Hid (_) := rideB_at ts rs k hkn
      rw [← HSY.out.1, ← HSY.out.2] at HB
      have HNN : Hid (_ ∧ _) := ⟨st_next rs k hkn, y_next ts rs k hkn⟩
      have HBD : Hid (hopB ts rs[k] = true → _) := fun h => hop_bds h
      have HRQ : Hid (hopB ts rs[k] = true → hopR ts rs[k] = rs[k]) := by intro h; unfold hopR; rw [h]; rfl
      have HTk : Hid (∀ w, Trains w a ts → _) := fun w I => HT.out rs[k] w I
      generalize rs[k] = r at *
      have NB := new_below wr (.cells #[.int .i64 r.tr, .int .i64 r.dy, .int .i64 r.fr, .int .i64 r.to] 68)
      have x1 := heap_new wr (.cells #[.int .i64 r.tr, .int .i64 r.dy, .int .i64 r.fr, .int .i64 r.to] 68)
      have xV1 := kept NB (lt_of xV) xV
      have L3 := join_below L NB
      have hVw : V < wr.heap.size := lt_of xV
      have H4 := HTk.out _ (I.on L3)
      clear HTk
      generalize hopR ts r = q at *
      generalize hopB ts r = hb at *
      generalize hopD ts r = d at *
      generalize hopA ts r = zz at *
      generalize rideB ts rs k = lb at *
      go_wp2_with fail
      refine H4.mono ?_
      rintro e w5 ⟨rfl, L5⟩
      have L6 := join_below L3 L5
      have xV5 := kept L5 (lt_of xV1) xV1
      have NH := new_below w5 (.cells #[.int .i64 q.tr, .int .i64 q.dy, .int .i64 q.fr, .int .i64 q.to, .int .i64 d, .int .i64 zz] 74)
      have xH := heap_new w5 (.cells #[.int .i64 q.tr, .int .i64 q.dy, .int .i64 q.fr, .int .i64 q.to, .int .i64 d, .int .i64 zz] 74)
      have xV6 := kept NH (lt_of xV5) xV5
      have L7 := join_below L6 NH
      clear H4 p0 p1 p2 p3 NB x1 xV1 L3 L L5 xV5 NH xV
      cases hb
      · have HE : Hid (ridesFrom ts rs 0 = false) := by show _ = _; rw [H.out, HS.out, HB.out]; rfl
        go_wp2
        go_ret
        exact ⟨by rw [HOK.out, HE.out] <;> rfl, L7⟩
      obtain ⟨⟨hd0, hd1⟩, hz2, hz3⟩ := HBD.out (by simp)
      obtain rfl : q = r := HRQ.out (by simp)
      have HTK : Hid (∀ w, _) := fun w => takes_val q d zz s y k w
      have HBH : Hid (∀ w, _) := fun w => behind_val q d zz s y k w hz2 hz3 (by omega) (by omega)
      have v0 : (w5.alloc (.cells #[.int .i64 q.tr, .int .i64 q.dy, .int .i64 q.fr, .int .i64 q.to, .int .i64 d, .int .i64 zz] 74)).cell? ⟨V, 0, none⟩ = some (.int .i64 s) := cell_at xV6 0
      have v1 : (w5.alloc (.cells #[.int .i64 q.tr, .int .i64 q.dy, .int .i64 q.fr, .int .i64 q.to, .int .i64 d, .int .i64 zz] 74)).cell? ⟨V, 1, none⟩ = some (.int .i64 y) := cell_at xV6 1
      have v2 : (w5.alloc (.cells #[.int .i64 q.tr, .int .i64 q.dy, .int .i64 q.fr, .int .i64 q.to, .int .i64 d, .int .i64 zz] 74)).cell? ⟨V, 2, none⟩ = some (.int .i64 k) := cell_at xV6 2
      go_wp2_with fail
      refine (HTK.out _).mono ?_
      rintro e w8 ⟨rfl, L8⟩
      have L9 := join_below L7 L8
      have xV8 := kept L8 (lt_of xV6) xV6
      have xH8 := kept L8 (lt_of xH) xH
      clear v0 v1 v2 xV6 xH L7 L8 HTK L6
      cases htk : ((q.fr == s) && decide (y ≤ d))
      · have HE : Hid (ridesFrom ts rs 0 = false) := by show _ = _; rw [H.out, HS.out, HB.out, htk]; rfl
        clear HB htk
        go_wp2
        go_ret
        exact ⟨by rw [HOK.out, HE.out] <;> rfl, L9⟩
      have HE : Hid (ridesFrom ts rs 0 = ridesFrom ts rs (k + 1)) := by show _ = _; rw [H.out, HS.out, HB.out, htk]; rfl
      have v0 : w8.cell? ⟨V, 0, none⟩ = some (.int .i64 s) := cell_at xV8 0
      have v1 : w8.cell? ⟨V, 1, none⟩ = some (.int .i64 y) := cell_at xV8 1
      have v2 : w8.cell? ⟨V, 2, none⟩ = some (.int .i64 k) := cell_at xV8 2
      have g0 : w8.cell? ⟨w5.heap.size, 0, none⟩ = some (.int .i64 q.tr) := cell_at xH8 0
      have g1 : w8.cell? ⟨w5.heap.size, 1, none⟩ = some (.int .i64 q.dy) := cell_at xH8 1
      have g2 : w8.cell? ⟨w5.heap.size, 2, none⟩ = some (.int .i64 q.fr) := cell_at xH8 2
      have g3 : w8.cell? ⟨w5.heap.size, 3, none⟩ = some (.int .i64 q.to) := cell_at xH8 3
      have g4 : w8.cell? ⟨w5.heap.size, 4, none⟩ = some (.int .i64 d) := cell_at xH8 4
      have g5 : w8.cell? ⟨w5.heap.size, 5, none⟩ = some (.int .i64 zz) := cell_at xH8 5
      clear HB H HS
      go_wp2_with fail
      refine (HBH.out _).mono ?_
      rintro e w10 ⟨rfl, L10⟩
      have L11 := join_below L9 L10
      have xV10 := kept L10 (lt_of xV8) xV8
      have y0 := frozen_at xV10 0
      have y1 := frozen_at xV10 1
      have y2 := frozen_at xV10 2
      have xN := h_set (i := 2) (h_set (i := 1) (h_set (i := 0) xV10 (.int .i64 q.to)) (.int .i64 (zz + 3))) (.int .i64 ((k : Int) + 1))
      have LN := ((L11.setCell (p := ⟨V, 0, none⟩) HV0.out (.int .i64 q.to)).setCell (p := ⟨V, 1, none⟩) HV0.out (.int .i64 (zz + 3))).setCell (p := ⟨V, 2, none⟩) HV0.out (.int .i64 ((k : Int) + 1))
      have HXN : Hid (_) := xN
      have HLN : Hid (_) := LN
      have u0 : w10.cell? ⟨V, 0, none⟩ = some (.int .i64 s) := cell_at xV10 0
      have u1 : w10.cell? ⟨V, 1, none⟩ = some (.int .i64 y) := cell_at xV10 1
      have u2 : w10.cell? ⟨V, 2, none⟩ = some (.int .i64 k) := cell_at xV10 2
      have HSX : Hid (q.to = stAt rs (k + 1) ∧ zz + 3 = yAt ts rs (k + 1)) := ⟨HNN.out.1.symm, HNN.out.2.symm⟩
      clear v0 v1 v2 g0 g1 g2 g3 g4 g5 xV8 xH8 xV10 L9 L10 L11 HBH xN LN HNN HSY
      go_wp2
      go_roundw
      case rel => exact ⟨k + 1, by omega, by go_num, HLN.out, HE, q.to, zz + 3, HXN.out, HSX⟩
      case measure => simp [intOf]; omega
    · have HE : Hid (ridesFrom ts rs 0 = true) := by show _ = _; rw [H.out, ridesFrom_end ts rs k hkn]
      go_wp2
      go_ret
      exact ⟨by rw [HOK.out, HE.out] <;> rfl, L⟩

end Tn
end Go.Proofs.Ytbjojljmgcnpnan

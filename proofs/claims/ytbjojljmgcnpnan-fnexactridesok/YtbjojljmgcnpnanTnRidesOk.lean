/- Contracts of RidesOk, of the program and of its model. -/
import Derived.Test.YtbjojljmgcnpnanTnHop3
import Derived.Test.YtbjojljmgcnpnanTnLinesS
namespace Go.Proofs.Ytbjojljmgcnpnan
namespace Tn
open Go.ChangeShapes Go.WideShapes Go.ChangeAt Go.RowKit
open Pk (new_below join_below cell_at heap_new frozen_at lt_of kept heap_old info_of own_form own_below Room)
open Rd (Ri Rides)
set_option linter.unusedSimpArgs false
set_option linter.unusedVariables false

def i0 : Ri := ⟨0, 0, 0, 0⟩

theorem getR_at (rs : List Ri) (i : Nat) (h : i < rs.length) : rs.getD i i0 = rs[i] := by simp [List.getD, h]

/-- Where one stands ahead of ride k, and from when on. -/
def stAt (rs : List Ri) (k : Nat) : Int := if k = 0 then (rs.getD 0 i0).fr else (rs.getD (k - 1) i0).to
def yAt (ts : List Tr) (rs : List Ri) (k : Nat) : Int := if k = 0 then 0 else hopA ts (rs.getD (k - 1) i0) + 3

def rideB (ts : List Tr) (rs : List Ri) (k : Nat) : Bool := hopB ts (rs.getD k i0) && (((rs.getD k i0).fr == stAt rs k) && decide (yAt ts rs k ≤ hopD ts (rs.getD k i0)))

def ridesFrom (ts : List Tr) (rs : List Ri) (i : Nat) : Bool := ((List.range rs.length).drop i).all (rideB ts rs)

def ridesB (ts : List Tr) (rs : List Ri) : Bool := linesB ts && (inB rs.length 1 6 && ridesFrom ts rs 0)

theorem ridesFrom_step (ts : List Tr) (rs : List Ri) (i : Nat) (h : i < rs.length) : ridesFrom ts rs i = (rideB ts rs i && ridesFrom ts rs (i + 1)) := by
  unfold ridesFrom
  rw [List.drop_eq_getElem_cons (by simpa using h), List.all_cons]
  simp

theorem ridesFrom_end (ts : List Tr) (rs : List Ri) (i : Nat) (h : ¬ i < rs.length) : ridesFrom ts rs i = true := by
  unfold ridesFrom
  rw [List.drop_eq_nil_of_le (by simp; omega)]
  rfl

theorem rideB_at (ts : List Tr) (rs : List Ri) (k : Nat) (h : k < rs.length) : rideB ts rs k = (hopB ts rs[k] && ((rs[k].fr == stAt rs k) && decide (yAt ts rs k ≤ hopD ts rs[k]))) := by
  unfold rideB
  rw [getR_at rs k h]

theorem st_next (rs : List Ri) (k : Nat) (h : k < rs.length) : stAt rs (k + 1) = rs[k].to := by
  unfold stAt
  rw [if_neg (by omega), show k + 1 - 1 = k from rfl, getR_at rs k h]

theorem y_next (ts : List Tr) (rs : List Ri) (k : Nat) (h : k < rs.length) : yAt ts rs (k + 1) = hopA ts rs[k] + 3 := by
  unfold yAt
  rw [if_neg (by omega), show k + 1 - 1 = k from rfl, getR_at rs k h]

theorem hop_bds {ts : List Tr} {r : Ri} (h : hopB ts r = true) : (0 ≤ hopD ts r ∧ hopD ts r ≤ 200000000) ∧ (0 ≤ hopA ts r ∧ hopA ts r ≤ 200000000) := by
  obtain ⟨i, j, hi, hj, -, hc, -, -, -, -, -, e1, e2, h0, h1⟩ := hop_is h
  have a := ok_stop (cut_ok hc) i hi
  have b := ok_stop (cut_ok hc) j hj
  rw [e1, e2]
  omega

set_option maxHeartbeats 4000000 in
theorem specRides_val (a : Option Addr) (ts : List Tr) (cap : Nat) (b : Option Addr) (rs : List Ri) (cap2 : Nat) (w : World) (hn : ts.length ≤ 1048576) (hs : ∀ i (h : i < ts.length), ts[i].l.length ≤ 1048576) (hr : rs.length ≤ maxLen) (I : Trains w a ts) (J : Rides w b rs) :
    Calls Try.prog 29 #[.slice a ts.length cap, .slice b rs.length cap2] w fun e w' => e = .returned (.bool (ridesB ts rs)) ∧ Below w.heap.size w w' := by
  have HL : Hid (∀ w, Trains w a ts → _) := fun w I => specLines_val a ts cap w (by unfold maxLen; omega) (fun i h => by have := hs i h; unfold maxLen; omega) I
  have HI : Hid (∀ w, _) := fun w => in_val (rs.length : Int) 1 6 w
  have HT : Hid (∀ r w, Trains w a ts → _) := fun r w I => times_val a ts cap r w hn hs I
  have HO : Hid (ridesB ts rs = (linesB ts && (inB rs.length 1 6 && ridesFrom ts rs 0))) := rfl
  unfold maxLen at hr
  clear hn hs
  generalize ridesB ts rs = R at *
  generalize linesB ts = b1 at *
  generalize inB (rs.length : Int) 1 6 = b2 at *
  go_enter Try.func29, Try.ntmps29
  go_wp2_with fail
  refine (HL.out _ I).mono ?_
  rintro e w1 ⟨rfl, L1⟩
  cases b1
  · go_wp2
    go_ret
    exact ⟨by rw [HO.out] <;> rfl, L1⟩
  go_wp2_with fail
  refine (HI.out _).mono ?_
  rintro e w2 ⟨rfl, rfl⟩
  cases b2
  · go_wp2
    go_ret
    exact ⟨by rw [HO.out] <;> rfl, L1⟩
  have HOK : Hid (R = ridesFrom ts rs 0) := HO.out
  clear HL HI HO
  go_wp2
  go_loopw [5, 6, 7] (fun t y i wr => ∃ k : Nat, k ≤ rs.length ∧ i = .int .i64 k ∧ Below w.heap.size w wr ∧ Hid (ridesFrom ts rs 0 = ridesFrom ts rs k) ∧ ∃ s z : Int, t = .int .i64 s ∧ y = .int .i64 z ∧ 0 ≤ z ∧ z ≤ 200000000 ∧ Hid (0 < k → s = stAt rs k ∧ z + 3 = yAt ts rs k)) (fun _ _ i _ => rs.length - (intOf i).toNat)
  case atStart => exact ⟨0, by omega, rfl, L1, rfl, 0, 0, rfl, rfl, by omega, by omega, fun h => by omega⟩
  case round =>
    obtain ⟨k, hk, rfl, L, H, s, z, rfl, rfl, hz0, hz1, HST⟩ := hrel
    by_cases hkn : k < rs.length
    · obtain ⟨x, o, rfl, hlt, c0, c1, c2, c3⟩ := (J.on L).at k hkn
      have HS : Hid (_) := ridesFrom_step ts rs k hkn
      have HB : Hid (_) := rideB_at ts rs k hkn
      have HN1 := st_next rs k hkn
      have HN2 := y_next ts rs k hkn
      have HTk := HT.out rs[k] wr (I.on L)
      have HBD : Hid (hopB ts rs[k] = true → _) := fun h => hop_bds h
      have H0 : Hid (k = 0 → stAt rs k = rs[k].fr ∧ yAt ts rs k = 0) := by
        intro h
        subst h
        exact ⟨by unfold stAt; rw [if_pos rfl, getR_at rs 0 hkn], rfl⟩
      have HNN : Hid (_ ∧ _) := ⟨HN1, HN2⟩
      clear HN1 HN2
      generalize hreq : rs[k] = r at *
      have HREQ : Hid (rs[k] = r) := hreq
      clear hreq
      generalize hopB ts r = hb at *
      generalize hopD ts r = d at *
      generalize hopA ts r = zz at *
      generalize rideB ts rs k = lb at *
      go_wp2_with fail
      refine HTk.mono ?_
      rintro e w3 ⟨rfl, L3⟩
      have L4 := join_below L L3
      obtain ⟨x', o', he, -, p0, p1, p2, p3⟩ := (J.on L4).at k hkn
      simp only [Option.some.injEq, Addr.mk.injEq, and_true] at he
      obtain ⟨rfl, rfl⟩ := he
      rw [HREQ.out] at p0 p1 p2 p3
      clear HTk c0 c1 c2 c3 L L3
      cases hb
      · have HE : Hid (ridesFrom ts rs 0 = false) := by show _ = _; rw [H.out, HS.out, HB.out]; rfl
        go_wp2
        go_ret
        exact ⟨by rw [HOK.out, HE.out] <;> rfl, L4⟩
      obtain ⟨⟨hd0, hd1⟩, hz2, hz3⟩ := HBD.out (by simp)
      by_cases h0 : k = 0
      · obtain ⟨e1, e2⟩ := H0.out h0
        have HE : Hid (ridesFrom ts rs 0 = ridesFrom ts rs (k + 1)) := by
          show _ = _
          rw [H.out, HS.out, HB.out, e1, e2, decide_eq_true (by omega)]
          simp
        have q1 : decide ((0 : Int) < (k : Int)) = false := decide_eq_false (by omega)
        have q2 : decide (0 < k) = false := decide_eq_false (by omega)
        clear e1 e2 H HS HB H0 HBD
        have HK0 : Hid (_) := h0
        have HSX : Hid (0 < k + 1 → r.to = stAt rs (k + 1) ∧ zz + 3 = yAt ts rs (k + 1)) := fun _ => ⟨HNN.out.1.symm, HNN.out.2.symm⟩
        subst h0
        simp only [Nat.zero_mul, Nat.add_zero] at p0 p1 p2 p3
        go_wp2
        go_roundw
        case rel => exact ⟨1, by omega, rfl, L4, HE, r.to, zz, rfl, rfl, hz2, hz3, HSX⟩
        case measure => simp [intOf]; omega
      · obtain ⟨e1, e2⟩ := HST.out (by omega)
        have q1 : decide ((0 : Int) < (k : Int)) = true := decide_eq_true (by omega)
        have q2 : decide (0 < k) = true := decide_eq_true (by omega)
        have HSX : Hid (0 < k + 1 → r.to = stAt rs (k + 1) ∧ zz + 3 = yAt ts rs (k + 1)) := fun _ => ⟨HNN.out.1.symm, HNN.out.2.symm⟩
        rw [← e1, ← e2] at HB
        have HK0 : Hid (_) := h0
        clear e1 e2 HST H0 HBD HNN h0
        by_cases hf : r.fr = s
        · by_cases hd : z + 3 ≤ d
          · have g1 : (r.fr != s) = false := by rw [hf]; simp
            have g2 : decide (d < z + 3) = false := decide_eq_false (by omega)
            have HE : Hid (ridesFrom ts rs 0 = ridesFrom ts rs (k + 1)) := by
              show _ = _
              rw [H.out, HS.out, HB.out, hf, decide_eq_true hd]
              simp
            clear H HS HB hf hd
            go_wp2
            go_roundw
            case rel => exact ⟨k + 1, by omega, by go_num, L4, HE, r.to, zz, rfl, rfl, hz2, hz3, HSX⟩
            case measure => simp [intOf]; omega
          · have g1 : (r.fr != s) = false := by rw [hf]; simp
            have g2 : decide (d < z + 3) = true := decide_eq_true (by omega)
            have HE : Hid (ridesFrom ts rs 0 = false) := by
              show _ = _
              rw [H.out, HS.out, HB.out, decide_eq_false hd]
              simp
            clear H HS HB hf hd
            go_wp2
            go_ret
            exact ⟨by rw [HOK.out, HE.out] <;> rfl, L4⟩
        · have g1 : (r.fr != s) = true := bne_iff_ne.2 hf
          have g3 : (r.fr == s) = false := beq_eq_false_iff_ne.2 hf
          have HE : Hid (ridesFrom ts rs 0 = false) := by
            show _ = _
            rw [H.out, HS.out, HB.out, g3]
            simp
          clear H HS HB hf
          go_wp2
          go_ret
          exact ⟨by rw [HOK.out, HE.out] <;> rfl, L4⟩
    · have HE : Hid (ridesFrom ts rs 0 = true) := by show _ = _; rw [H.out, ridesFrom_end ts rs k hkn]
      go_wp2
      go_ret
      exact ⟨by rw [HOK.out, HE.out] <;> rfl, L⟩

end Tn
end Go.Proofs.Ytbjojljmgcnpnan

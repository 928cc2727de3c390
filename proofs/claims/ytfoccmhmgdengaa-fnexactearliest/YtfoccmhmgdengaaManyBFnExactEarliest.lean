/- Texts laid into one, in their order: EaNext, TnLinesS, EaSpec. -/
import Derived.Test.YtfoccmhmgdengaaManyAFnExactEarliest
import Derived.Test.YtfoccmhmgdengaaEaApp
import Derived.Deep.CutRange
import Derived.Deep.RegionHeld3
/- The contract of the model's l06Next: the ways with one ride more. -/
namespace Go.Proofs.Ytfoccmhmgdengaa
namespace Rd
open Go.ChangeShapes Go.WideShapes Go.ChangeAt Go.RowKit
open Pk (new_below join_below cell_at heap_new frozen_at lt_of kept heap_old info_of own_form)
open Tn (Tr St Hd idx dayBit z0 okB Trains Stops trV p2)
set_option linter.unusedSimpArgs false
set_option linter.unusedVariables false

/-- What is left of the ways from the k-th on. -/
def rem1 (ts : List Tr) (day first : Int) (ps : List Pw) (k : Nat) : List Wy := ((ps.drop k).map (·.o)).flatMap fun u => (more ts day first u).map (cand u)
/-- .. of a way's trains from the k-th on. -/
def rem2 (ts : List Tr) (day y : Int) (u : Wy) (k : Nat) (R : List Wy) : List Wy := ((ts.drop k).flatMap fun t => hopsT t u.s day y).map (cand u) ++ R
/-- .. of a train's days from the j-th on. -/
def rem3 (t : Tr) (day y : Int) (u : Wy) (j : Nat) (R : List Wy) : List Wy := (if idx t.l u.s 0 < 0 then [] else ((List.range 4).drop j).flatMap fun (i : Nat) => hopsD t u.s (idx t.l u.s 0).toNat (day - 2 + (i : Int)) y).map (cand u) ++ R
/-- .. of a day's stops from the m-th on. -/
def rem4 (t : Tr) (d : Int) (a : Nat) (u : Wy) (m : Nat) (R : List Wy) : List Wy := ((t.l.drop m).map (hopTo t u.s d a)).map (cand u) ++ R

theorem rem1_step {ts : List Tr} {day first : Int} {ps : List Pw} {k : Nat} (hk : k < ps.length) : rem1 ts day first ps k = rem2 ts day (ahead first ps[k].o) ps[k].o 0 (rem1 ts day first ps (k + 1)) := by
  unfold rem1 rem2
  rw [List.drop_eq_getElem_cons hk, List.map_cons, List.flatMap_cons, List.drop_zero]
  rfl

theorem rem1_end {ts : List Tr} {day first : Int} {ps : List Pw} : rem1 ts day first ps ps.length = [] := by
  unfold rem1
  rw [List.drop_length]
  rfl

theorem rem2_step {ts : List Tr} {day y : Int} {u : Wy} {k : Nat} {R : List Wy} (hk : k < ts.length) : rem2 ts day y u k R = rem3 ts[k] day y u 0 (rem2 ts day y u (k + 1) R) := by
  unfold rem2 rem3
  rw [List.drop_eq_getElem_cons hk, List.flatMap_cons, List.map_append, List.append_assoc, List.drop_zero]
  rfl

theorem rem2_end {ts : List Tr} {day y : Int} {u : Wy} {R : List Wy} : rem2 ts day y u ts.length R = R := by
  unfold rem2
  rw [List.drop_length]
  rfl

theorem rem3_none {t : Tr} {day y : Int} {u : Wy} {j : Nat} {R : List Wy} (h : idx t.l u.s 0 < 0) : rem3 t day y u j R = R := by
  unfold rem3
  rw [if_pos h]
  rfl

theorem rem3_end {t : Tr} {day y : Int} {u : Wy} {R : List Wy} : rem3 t day y u 4 R = R := by
  unfold rem3
  by_cases h : idx t.l u.s 0 < 0
  · rw [if_pos h]; rfl
  · rw [if_neg h]; rfl

theorem rem3_step {t : Tr} {day y : Int} {u : Wy} {j a : Nat} {R : List Wy} (hj : j < 4) (ha : idx t.l u.s 0 = a) : rem3 t day y u j R = (hopsD t u.s a (day - 2 + (j : Int)) y).map (cand u) ++ rem3 t day y u (j + 1) R := by
  unfold rem3
  rw [if_neg (by omega), if_neg (by omega), ha, Int.toNat_natCast, List.drop_eq_getElem_cons (by rw [List.length_range]; exact hj), List.flatMap_cons, List.map_append, List.append_assoc, List.getElem_range]

theorem rem3_skip {t : Tr} {day y : Int} {u : Wy} {j a : Nat} {R : List Wy} (hj : j < 4) (ha : idx t.l u.s 0 = a) (h : okDay t a (day - 2 + (j : Int)) y = false) : rem3 t day y u j R = rem3 t day y u (j + 1) R := by
  rw [rem3_step hj ha]
  unfold hopsD
  rw [if_neg (by rw [h]; simp)]
  rfl

theorem rem3_go {t : Tr} {day y : Int} {u : Wy} {j a : Nat} {R : List Wy} (hj : j < 4) (ha : idx t.l u.s 0 = a) (h : okDay t a (day - 2 + (j : Int)) y = true) : rem3 t day y u j R = rem4 t (day - 2 + (j : Int)) a u (a + 1) (rem3 t day y u (j + 1) R) := by
  rw [rem3_step hj ha]
  unfold hopsD rem4
  rw [if_pos h]

theorem rem4_step {t : Tr} {d : Int} {a m : Nat} {u : Wy} {R : List Wy} (hm : m < t.l.length) : rem4 t d a u m R = cand u (hopTo t u.s d a t.l[m]) :: rem4 t d a u (m + 1) R := by
  unfold rem4
  rw [List.drop_eq_getElem_cons hm]
  rfl

theorem rem4_end {t : Tr} {d : Int} {a : Nat} {u : Wy} {R : List Wy} : rem4 t d a u t.l.length R = R := by
  unfold rem4
  rw [List.drop_length]
  rfl

/-- No block of a list is one of two others. -/
def Off (v : Value) (B C : Nat) : Prop := ∀ g, v.ownBlock = some g → g ≠ B ∧ g ≠ C

set_option maxHeartbeats 16000000 in
set_option maxRecDepth 100000 in
theorem specNext_val (ts : List Tr) (ps : List Pw) (day first : Int) (a : Option Addr) (c b0 : Nat) (v : Value) (w : World) (hn : ts.length ≤ 40) (hok : ∀ t ∈ ts, okB t.h t.l = true) (hps : ps.length ≤ 1000000)
    (hpl : ∀ p ∈ ps, p.o.p.length ≤ 6 ∧ 0 ≤ p.o.z ∧ p.o.z ≤ 200000000 ∧ (p.o.p.length = 0 → p.r = .slice none 0 0)) (hd0 : 0 ≤ day) (hd1 : day ≤ 90000) (hf0 : 0 ≤ first) (hf1 : first ≤ 200000000) (I : Trains w a ts) (P : Lw w b0 v ps) :
    Calls Try.prog 34 #[.slice a ts.length c, v, .int .i64 day, .int .i64 first] w fun e w' => ∃ v' qs, e = .returned v' ∧ Lw w' w.heap.size v' qs ∧ qs.map (·.o) = keepAll [] (nextOf (more ts day first) (ps.map (·.o))) ∧ Below w.heap.size w w' := by
  obtain ⟨va, vc, rfl, -⟩ := own_form P.own
  have HW0 : nextOf (more ts day first) (ps.map (·.o)) = rem1 ts day first ps 0 := by unfold nextOf rem1; rw [List.drop_zero]; rfl
  have HWE : ∀ x ∈ nextOf (more ts day first) (ps.map (·.o)), (x.s, x.z) ∈ ends ts day ∧ x.p.length ≤ 7 ∧ 0 ≤ x.z ∧ x.z ≤ 200000000 := by
    intro x hx
    unfold nextOf at hx
    obtain ⟨u, hu, hx⟩ := List.mem_flatMap.1 hx
    obtain ⟨h, hh, rfl⟩ := List.mem_map.1 hx
    obtain ⟨p, hp, rfl⟩ := List.mem_map.1 hu
    obtain ⟨e1, t, ht, s, hs, d, q1, q2, q3, q4⟩ := more_end hok hh
    obtain ⟨k, hk, rfl⟩ := List.getElem_of_mem hs
    have q5 := Tn.tok_stop (hok t ht) k hk
    have := (hpl p hp).1
    exact ⟨e1, by simp; omega, by show 0 ≤ h.z; omega, by show h.z ≤ 200000000; omega⟩
  obtain ⟨WH, hWH⟩ : ∃ WH, nextOf (more ts day first) (ps.map (·.o)) = WH := ⟨_, rfl⟩
  rw [hWH] at HW0 HWE ⊢
  have HG : Hid (∀ rem qs, Got WH rem qs → qs.length ≤ 3200 ∧ ∀ p ∈ qs, p.o.p.length ≤ 1000) := fun rem qs G => ⟨Nat.le_trans (G.len fun x hx => (HWE x hx).1) (ends_le hn fun t ht => (Tn.tok_len (hok t ht)).2), fun p hp => Nat.le_trans (HWE _ (G.mem hp)).2.1 (by omega)⟩
  have HG0 : Hid (Got WH (rem1 ts day first ps 0) []) := by rw [← HW0]; exact Got.start WH
  clear hWH HW0 HWE
  have O0 := own_empty w w.heap.size 70 3 (Nat.le_refl _)
  have N0 := new_below w (.cells #[] 70)
  go_enter Try.func34, Try.ntmps34
  go_wp2
  generalize w.alloc (.cells #[] 70) = W0 at *
  go_loopw [9, 10] (fun vz i wr => ∃ (k : Nat) (vo : Value) (qs : List Pw), vo = vz ∧ k ≤ ps.length ∧ i = .int .i64 k ∧ Below w.heap.size w wr ∧ Hid (Lw wr w.heap.size vo qs) ∧ Hid (Got WH (rem1 ts day first ps k) qs)) (fun _ i _ => ps.length - (intOf i).toNat)
  case atStart => exact ⟨0, _, [], rfl, by omega, rfl, N0, ⟨O0, fun p hp => by cases hp⟩, HG0⟩
  case round =>
    obtain ⟨k, vo, qs, rfl, hk, rfl, L, HL, HGo⟩ := hrel
    by_cases hkn : k < ps.length
    · obtain ⟨gv, c', hv, hgv, -, ⟨d0, -⟩, ⟨d1, -⟩, ⟨d2, -⟩⟩ := (P.on (L.mono (Nat.le_refl _))).at k hkn
      simp only [Value.slice.injEq] at hv
      obtain ⟨rfl, -, rfl⟩ := hv
      obtain ⟨hl6, hz0, hz1, hnil⟩ := hpl ps[k] (List.getElem_mem hkn)
      have RA := P.rds ps[k] (List.getElem_mem hkn)
      have HG1 : Hid (Got WH (rem2 ts day (ahead first ps[k].o) ps[k].o 0 (rem1 ts day first ps (k + 1))) qs) := by
        have h := HGo.out
        rw [rem1_step hkn] at h
        exact h
      change wr.cell? ⟨gv, k * 3, none⟩ = some (.slice ps[k].a ps[k].o.p.length ps[k].cap) at d0
      change ps[k].o.p.length = 0 → Value.slice ps[k].a ps[k].o.p.length ps[k].cap = .slice none 0 0 at hnil
      obtain ⟨R1, hR1⟩ : ∃ R1, rem1 ts day first ps (k + 1) = R1 := ⟨_, rfl⟩
      rw [hR1] at HG1
      generalize ps[k] = p at *
      obtain ⟨pa, pc, pp, px, pz⟩ := p
      obtain ⟨y, hy⟩ : ∃ y, ahead first ⟨pp, px, pz⟩ = y := ⟨_, rfl⟩
      have hyb : 0 ≤ y ∧ y ≤ 200000010 := by
        rw [← hy]; unfold ahead
        dsimp only at hz0 hz1 ⊢
        by_cases h0 : pp.length = 0
        · rw [if_pos h0]; omega
        · rw [if_neg h0]; omega
      rw [hy] at HG1
      have N1 := new_below wr (.cells #[.slice pa pp.length pc, .int .i64 px, .int .i64 pz] 70)
      have n1 := heap_new wr (.cells #[.slice pa pp.length pc, .int .i64 px, .int .i64 pz] 70)
      have L1 := L.trans (N1.mono L.size)
      have HL1 : Hid (Lw (wr.alloc (.cells #[.slice pa pp.length pc, .int .i64 px, .int .i64 pz] 70)) w.heap.size vo qs) := HL.out.on N1
      have hoff : ∀ g, vo.ownBlock = some g → g ≠ wr.heap.size := fun g hg => Nat.ne_of_lt (HL.out.own.lt g hg).2
      clear HGo HL L N1
      have hkt : decide ((k : Int) < (ps.length : Int)) = true := decide_eq_true (by omega)
      go_upto_region 6 with fail
      generalize (wr.alloc (.cells #[.slice pa pp.length pc, .int .i64 px, .int .i64 pz] 70)) = W1 at *
      generalize wr.heap.size = BW at *
      have c0 : W1.cell? ⟨BW, 0, none⟩ = some (.slice pa pp.length pc) := cell_at n1 0
      have c1 : W1.cell? ⟨BW, 1, none⟩ = some (.int .i64 px) := cell_at n1 1
      have c2 : W1.cell? ⟨BW, 2, none⟩ = some (.int .i64 pz) := cell_at n1 2
      clear d0 d1 d2
      go_upto_if 34 with fail
      go_cut [12] from 20 to 130 (fun x wc => x = .int .i64 y ∧ wc = W1)
      case first =>
        by_cases h0 : pp.length = 0
        · have ht : decide ((0 : Int) < (pp.length : Int)) = false := decide_eq_false (by omega)
          have hy0 : Hid (first = y) := by show _ = _; rw [← hy]; unfold ahead; rw [if_pos (show pp.length = 0 from h0)]
          have ht2 : decide (0 < pp.length) = false := decide_eq_false (by omega)
          clear hnil
          go_wp2
          go_meet
          case rel => exact ⟨by rw [hy0.out], rfl⟩
        · have ht : decide ((0 : Int) < (pp.length : Int)) = true := decide_eq_true (by omega)
          have ht2 : decide (0 < pp.length) = true := decide_eq_true (by omega)
          have hy0 : pz + 3 = y := by rw [← hy]; unfold ahead; rw [if_neg (show ¬ pp.length = 0 from h0)]
          go_wp2
          go_meet
          case rel => exact ⟨rfl, rfl⟩
      case rest =>
        obtain ⟨rfl, rfl⟩ := hcut
        clear hf0 hf1 hy
        go_wp2
        go_loopw [9, 13] (fun vz i wr => ∃ (k2 : Nat) (vo : Value) (qs : List Pw), vo = vz ∧ k2 ≤ ts.length ∧ i = .int .i64 k2 ∧ Below w.heap.size w wr ∧ wr.heap[BW]? = some (.cells #[.slice pa pp.length pc, .int .i64 px, .int .i64 pz] 70) ∧ Hid (Lw wr w.heap.size vo qs) ∧ Hid (∀ g, vo.ownBlock = some g → g ≠ BW) ∧ Hid (Got WH (rem2 ts day y ⟨pp, px, pz⟩ k2 R1) qs)) (fun _ i _ => ts.length - (intOf i).toNat)
        case atStart => exact ⟨0, _, qs, rfl, by omega, rfl, L1, n1, HL1, hoff, HG1⟩
        case round =>
          obtain ⟨k2, vo, qs, rfl, hk2, rfl, LW2, n2, HL, hoff, HGo⟩ := hrel
          by_cases hk2n : k2 < ts.length
          · obtain ⟨bt, ot, bs, os, sc, rfl, hbt, e0, e1, e2, e3, e4, ISW⟩ := I.at k2 hk2n
            have IS := ISW.on LW2
            rw [← LW2.cell (p := ⟨bt, ot + k2 * 5, none⟩) hbt] at e0
            rw [← LW2.cell (p := ⟨bt, ot + k2 * 5 + 1, none⟩) hbt] at e1
            rw [← LW2.cell (p := ⟨bt, ot + k2 * 5 + 2, none⟩) hbt] at e2
            rw [← LW2.cell (p := ⟨bt, ot + k2 * 5 + 3, none⟩) hbt] at e3
            rw [← LW2.cell (p := ⟨bt, ot + k2 * 5 + 4, none⟩) hbt] at e4
            have hokt := hok ts[k2] (List.getElem_mem hk2n)
            have HG2 : Hid (Got WH (rem3 ts[k2] day y ⟨pp, px, pz⟩ 0 (rem2 ts day y ⟨pp, px, pz⟩ (k2 + 1) R1)) qs) := by
              have h := HGo.out
              rw [rem2_step hk2n] at h
              exact h
            obtain ⟨R2, hR2⟩ : ∃ R2, rem2 ts day y ⟨pp, px, pz⟩ (k2 + 1) R1 = R2 := ⟨_, rfl⟩
            rw [hR2] at HG2
            have htl := Tn.tok_len hokt
            generalize ts[k2] = t at *
            have N3 := new_below wr (.cells #[.int .i64 t.h.id, .int .i64 t.h.dy, .int .i64 t.h.co, .int .i64 t.h.se, .slice (some ⟨bs, os, none⟩) t.l.length sc] 33)
            have n3 := heap_new wr (.cells #[.int .i64 t.h.id, .int .i64 t.h.dy, .int .i64 t.h.co, .int .i64 t.h.se, .slice (some ⟨bs, os, none⟩) t.l.length sc] 33)
            have n4 := kept N3 (lt_of n2) n2
            have L3 := LW2.trans (N3.mono LW2.size)
            have HL3 : Hid (Lw (wr.alloc (.cells #[.int .i64 t.h.id, .int .i64 t.h.dy, .int .i64 t.h.co, .int .i64 t.h.se, .slice (some ⟨bs, os, none⟩) t.l.length sc] 33)) w.heap.size vo qs) := HL.out.on N3
            have hoff3 : Hid (Off vo BW wr.heap.size) := fun g hg => ⟨hoff g hg, Nat.ne_of_lt (HL.out.own.lt g hg).2⟩
            have x1 : (wr.alloc (.cells #[.int .i64 t.h.id, .int .i64 t.h.dy, .int .i64 t.h.co, .int .i64 t.h.se, .slice (some ⟨bs, os, none⟩) t.l.length sc] 33)).cell? ⟨BW, 1, none⟩ = some (.int .i64 px) := cell_at n4 1
            have HAT : Hid (∀ _ : Unit, _) := fun _ => Tn.specAt_val t.h px (some ⟨bs, os, none⟩) t.l sc (wr.alloc (.cells #[.int .i64 t.h.id, .int .i64 t.h.dy, .int .i64 t.h.co, .int .i64 t.h.se, .slice (some ⟨bs, os, none⟩) t.l.length sc] 33)) (by unfold maxLen; omega) (IS.on N3)
            have IS3 := IS.on N3
            have hkt2 : decide ((k2 : Int) < (ts.length : Int)) = true := decide_eq_true (by omega)
            clear HGo HL hoff N3
            go_wp2_with fail
            refine (HAT.out ()).mono ?_
            generalize (wr.alloc (.cells #[.int .i64 t.h.id, .int .i64 t.h.dy, .int .i64 t.h.co, .int .i64 t.h.se, .slice (some ⟨bs, os, none⟩) t.l.length sc] 33)) = W3 at *
            generalize hBT : wr.heap.size = BT at *
            rintro e w4 ⟨rfl, L4⟩
            have m1 := kept L4 (lt_of n4) n4
            have m2 := kept L4 (lt_of n3) n3
            have L5 := L3.trans (L4.mono L3.size)
            have HL5 : Hid (Lw w4 w.heap.size vo qs) := HL3.out.on L4
            have hix := Tn.idx_is t.l px
            obtain ⟨ix, hixe⟩ : ∃ ix, idx t.l px 0 = ix := ⟨_, rfl⟩
            rw [hixe] at hix ⊢
            have hixb := Tn.idx_bds t.l px
            rw [hixe] at hixb
            have HIX : Hid (idx t.l px 0 = ix) := hixe
            clear e0 e1 e2 e3 e4 hbt n2 n3 n4 x1 HAT L3 HL3 IS IS3 L4 hixe hBT
            go_wp2
            go_loopw [9, 16] (fun vz i wr => ∃ (j : Nat) (d : Int) (vo : Value) (qs : List Pw), vo = vz ∧ j ≤ 4 ∧ d ≤ day - 2 + (j : Int) ∧ day - 2 + (j : Int) ≤ d ∧ (ix < 0 → j = 0) ∧ i = .int .i64 d ∧ Below w.heap.size w wr ∧ wr.heap[BW]? = some (.cells #[.slice pa pp.length pc, .int .i64 px, .int .i64 pz] 70) ∧ wr.heap[BT]? = some (.cells #[.int .i64 t.h.id, .int .i64 t.h.dy, .int .i64 t.h.co, .int .i64 t.h.se, .slice (some ⟨bs, os, none⟩) t.l.length sc] 33) ∧ Hid (Lw wr w.heap.size vo qs) ∧ Hid (Off vo BW BT) ∧ Hid (Got WH (rem3 t day y ⟨pp, px, pz⟩ j R2) qs)) (fun _ i _ => (day + 2 - intOf i).toNat)
            case atStart => exact ⟨0, day - 2, _, qs, rfl, by omega, by omega, by omega, fun _ => rfl, rfl, L5, m1, m2, HL5, hoff3, HG2⟩
            case round =>
              obtain ⟨j, d, vo, qs, rfl, hj, hda, hdb, hij, rfl, LW6, n1, n2, HL, HOF, HGo⟩ := hrel
              have HR2 : Hid (rem2 ts day y ⟨pp, px, pz⟩ (k2 + 1) R1 = R2) := hR2
              by_cases hin : ix < 0
              · obtain rfl : j = 0 := hij hin
                have ht1 : decide (d ≤ day + 1) = true := decide_eq_true (by omega)
                have ht2 : decide (0 ≤ ix) = false := decide_eq_false (by omega)
                have HGE : Hid (Got WH (rem2 ts day y ⟨pp, px, pz⟩ (k2 + 1) R1) qs) := by
                  have h := HGo.out
                  rw [rem3_none (by rw [show idx t.l (⟨pp, px, pz⟩ : Wy).s 0 = ix from HIX.out]; exact hin)] at h
                  rw [HR2.out]
                  exact h
                have hofx : ∀ g, vo.ownBlock = some g → g ≠ BW := fun g hg => (HOF.out g hg).1
                clear hix hixb n2 m1 m2
                go_wp2
                go_roundw
                case rel => exact ⟨k2 + 1, _, qs, rfl, by omega, by go_num, LW6, n1, HL, hofx, HGE⟩
                case measure => simp [intOf]; omega
              · rcases hix with ⟨rfl, -⟩ | ⟨ka, hka, rfl, hst, -⟩
                · omega
                by_cases hj4 : j < 4
                · have ht1 : decide (d ≤ day + 1) = true := decide_eq_true (by omega)
                  have ht2 : decide (0 ≤ (ka : Int)) = true := decide_eq_true (by omega)
                  obtain ⟨bs', os', hbs, -, s0, s1, s2⟩ := (ISW.on LW6).at ka hka
                  simp only [Option.some.injEq, Addr.mk.injEq, and_true] at hbs
                  obtain ⟨rfl, rfl⟩ := hbs
                  have hdp : depAt t ka = t.l[ka].dp := by unfold depAt; rw [Tn.getD_at t.l ka hka]
                  obtain ⟨-, -, q3, q4⟩ := Tn.tok_stop hokt ka hka
                  have q2 := (Tn.tok_stop hokt ka hka).2.1.1
                  obtain ⟨dp, hdpe⟩ : ∃ dp, t.l[ka].dp = dp := ⟨_, rfl⟩
                  rw [hdpe] at hdp s2 q3 q4
                  have hdp0 : 0 ≤ dp := by omega
                  have f1 : wr.cell? ⟨BT, 1, none⟩ = some (.int .i64 t.h.dy) := cell_at n2 1
                  have f4 : wr.cell? ⟨BT, 4, none⟩ = some (.slice (some ⟨bs, os, none⟩) t.l.length sc) := cell_at n2 4
                  have hde : day - 2 + (j : Int) = d := by omega
                  have HDE : Hid (day - 2 + (j : Int) = d) := hde
                  clear s0 s1 q2 q3 hdpe
                  by_cases hd0' : d < 0
                  · have hdn : decide (d < 0) = true := decide_eq_true hd0'
                    have HGS : Hid (Got WH (rem3 t day y ⟨pp, px, pz⟩ (j + 1) R2) qs) := by
                      have h := HGo.out
                      rw [rem3_skip hj4 HIX.out (by unfold okDay; rw [HDE.out, decide_eq_false (show ¬ (0 : Int) ≤ d by omega)]; rfl)] at h
                      exact h
                    go_wp2
                    go_quiet (fail)
                    go_wp2
                    go_roundw
                    case rel => exact ⟨j + 1, d + 1, _, qs, rfl, by omega, by omega, by omega, fun h => by omega, by go_num, LW6.trans (Pk.Drawn.below _ ⟨_, rfl⟩), n1, n2, HL.out.on (Pk.Drawn.below _ ⟨_, rfl⟩), HOF, HGS⟩
                    case measure => simp [intOf]; omega
                  · have hdn : decide (d < 0) = false := decide_eq_false hd0'
                    have hdy := Tn.ok_days hokt
                    obtain ⟨n, rfl⟩ : ∃ n : Nat, d = n := ⟨d.toNat, by omega⟩
                    obtain ⟨dyn, hdyn⟩ : ∃ x : Nat, t.h.dy = x := ⟨t.h.dy.toNat, by omega⟩
                    obtain ⟨r, hr⟩ : ∃ r, n % 7 = r := ⟨_, rfl⟩
                    have hr1 : r ≤ 6 := by omega
                    have hr2 : (n : Int) % 7 = (r : Int) := by omega
                    have hr3 : Int.tmod (n : Int) 7 = (r : Int) := by rw [Int.tmod_eq_emod_of_nonneg (by omega)]; exact hr2
                    have HQ : Hid (dayBit t.h.dy n = dyn / 2 ^ r % 2) := by
                      show _ = _
                      unfold dayBit
                      rw [hdyn, hr2]
                      rfl
                    have HP : Hid (∀ w, _) := fun w => Tn.pow2_val r w (by omega)
                    have hp1 : 1 ≤ p2 r := Nat.one_le_two_pow
                    have hp2 := Tn.p2_bd r (by omega)
                    have hq0 : (dyn : Int) / (p2 r : Int) = ((dyn / 2 ^ r : Nat) : Int) := by unfold p2; simp
                    have hz : dyn / 2 ^ r ≤ dyn := Nat.div_le_self _ _
                    generalize dyn / 2 ^ r = z at *
                    generalize p2 r = Q at *
                    have hq1 : Int.tdiv (dyn : Int) (Q : Int) = (z : Int) := by rw [Int.tdiv_eq_ediv_of_nonneg (by omega)]; exact hq0
                    have hq2 : (z : Int) % 2 = ((z % 2 : Nat) : Int) := by omega
                    have hq3 : Int.tmod (z : Int) 2 = ((z % 2 : Nat) : Int) := by rw [Int.tmod_eq_emod_of_nonneg (by omega)]; exact hq2
                    have hqb : z % 2 < 2 := Nat.mod_lt _ (by omega)
                    generalize z % 2 = q at *
                    rw [hdyn] at f1
                    have HDY : Hid (t.h.dy = dyn) := hdyn
                    have hdyb : dyn ≤ 127 := by omega
                    clear hr hr2 hq0 hq2 hdyn hdy
                    by_cases hq0 : q = 0
                    · have HQ0 : Hid (dayBit t.h.dy n = 0) := by show _ = _; rw [HQ.out, hq0]
                      subst hq0
                      have HGS : Hid (Got WH (rem3 t day y ⟨pp, px, pz⟩ (j + 1) R2) qs) := by
                        have h := HGo.out
                        rw [rem3_skip hj4 HIX.out (by unfold okDay; rw [HDE.out, HQ0.out]; simp)] at h
                        exact h
                      go_wp2
                      go_quiet ((go_at_call 42; exact Calls.quiet_of_same (HP.out _)))
                      go_wp2
                      go_roundw
                      case rel => exact ⟨j + 1, (n : Int) + 1, _, qs, rfl, by omega, by omega, by omega, fun h => by omega, by go_num, LW6.trans (Pk.Drawn.below _ ⟨_, rfl⟩), n1, n2, HL.out.on (Pk.Drawn.below _ ⟨_, rfl⟩), HOF, HGS⟩
                      case measure => simp [intOf]; omega
                    · obtain rfl : q = 1 := by omega
                      by_cases hyd : 1440 * (n : Int) + dp < y
                      · have hyt : decide (1440 * (n : Int) + dp < y) = true := decide_eq_true hyd
                        have HGS : Hid (Got WH (rem3 t day y ⟨pp, px, pz⟩ (j + 1) R2) qs) := by
                          have h := HGo.out
                          rw [rem3_skip hj4 HIX.out (by unfold okDay; rw [HDE.out, HQ.out, hdp, decide_eq_false (show ¬ y ≤ 1440 * (n : Int) + dp by omega)]; simp)] at h
                          exact h
                        go_wp2
                        go_quiet ((go_at_call 42; exact Calls.quiet_of_same (HP.out _)))
                        go_wp2
                        go_roundw
                        case rel => exact ⟨j + 1, (n : Int) + 1, _, qs, rfl, by omega, by omega, by omega, fun h => by omega, by go_num, LW6.trans (Pk.Drawn.below _ ⟨_, rfl⟩), n1, n2, HL.out.on (Pk.Drawn.below _ ⟨_, rfl⟩), HOF, HGS⟩
                        case measure => simp [intOf]; omega
                      · have hyt : decide (1440 * (n : Int) + dp < y) = false := decide_eq_false hyd
                        have HGG : Hid (Got WH (rem4 t n ka ⟨pp, px, pz⟩ (ka + 1) (rem3 t day y ⟨pp, px, pz⟩ (j + 1) R2)) qs) := by
                          have h := HGo.out
                          rw [rem3_go hj4 HIX.out (by unfold okDay; rw [HDE.out, HQ.out, hdp]; simp; omega), HDE.out] at h
                          exact h
                        go_wp2
                        go_quiet ((go_at_call 42; exact Calls.quiet_of_same (HP.out _)))
                        have D6 : Below wr.heap.size wr (wr.drewN nq) := Pk.Drawn.below _ ⟨_, rfl⟩
                        have HL8 : Hid (Lw (wr.drewN nq) w.heap.size vo qs) := HL.out.on D6
                        have k1 := kept D6 (lt_of n1) n1
                        have k2' := kept D6 (lt_of n2) n2
                        have L9 := LW6.trans (D6.mono LW6.size)
                        generalize wr.drewN nq = w6 at *
                        clear hr3 HP hp1 hp2 hq1 hq3 hz hqb n1 n2 f1 f4 s2 LW6 HL D6 HGo hdyb ht1 ht2 hyt hdn
                        go_wp2
                        go_loopw [9, 17] (fun vz i wr => ∃ (m : Nat) (vo : Value) (qs : List Pw), vo = vz ∧ m ≤ t.l.length ∧ i = .int .i64 m ∧ Below w.heap.size w wr ∧ wr.heap[BW]? = some (.cells #[.slice pa pp.length pc, .int .i64 px, .int .i64 pz] 70) ∧ wr.heap[BT]? = some (.cells #[.int .i64 t.h.id, .int .i64 t.h.dy, .int .i64 t.h.co, .int .i64 t.h.se, .slice (some ⟨bs, os, none⟩) t.l.length sc] 33) ∧ Hid (Lw wr w.heap.size vo qs) ∧ Hid (Off vo BW BT) ∧ Hid (Got WH (rem4 t n ka ⟨pp, px, pz⟩ m (rem3 t day y ⟨pp, px, pz⟩ (j + 1) R2)) qs)) (fun _ i _ => t.l.length - (intOf i).toNat)
                        case atStart => exact ⟨ka + 1, _, qs, rfl, by omega, by go_num, L9, k1, k2', HL8, HOF, HGG⟩
                        case round =>
                          obtain ⟨m, vo, qs, rfl, hm, rfl, LW, b1, b2, HL, HOF, HGo⟩ := hrel
                          have f4 : wr.cell? ⟨BT, 4, none⟩ = some (.slice (some ⟨bs, os, none⟩) t.l.length sc) := cell_at b2 4
                          by_cases hmn : m < t.l.length
                          · obtain ⟨bs', os', hbs, hsl, s0, s1, s2⟩ := ISW.at m hmn
                            simp only [Option.some.injEq, Addr.mk.injEq, and_true] at hbs
                            obtain ⟨rfl, rfl⟩ := hbs
                            rw [← LW.cell (p := ⟨bs, os + m * 3, none⟩) hsl] at s0
                            rw [← LW.cell (p := ⟨bs, os + m * 3 + 1, none⟩) hsl] at s1
                            have hts := Tn.tok_stop hokt m hmn
                            have har := hts.2.1
                            have HGm := HGo.out
                            rw [rem4_step hmn] at HGm
                            obtain ⟨h, hh⟩ : ∃ h, hopTo t (⟨pp, px, pz⟩ : Wy).s n ka t.l[m] = h := ⟨_, rfl⟩
                            rw [hh] at HGm
                            have HGh : Hid (Got WH (cand ⟨pp, px, pz⟩ h :: rem4 t n ka ⟨pp, px, pz⟩ (m + 1) (rem3 t day y ⟨pp, px, pz⟩ (j + 1) R2)) qs) := HGm
                            obtain ⟨st, hst9⟩ : ∃ st, t.l[m].st = st := ⟨_, rfl⟩
                            obtain ⟨ar, har9⟩ : ∃ ar, t.l[m].ar = ar := ⟨_, rfl⟩
                            have HH : Hid (h.r = ⟨t.h.id, n, px, st⟩ ∧ h.z = 1440 * (n : Int) + ar) := by
                              rw [← hh, ← hst9, ← har9]
                              exact ⟨rfl, rfl⟩
                            rw [hst9] at s0
                            rw [har9] at s1 har
                            have htm : decide ((m : Int) < (t.l.length : Int)) = true := decide_eq_true (by omega)
                            have g0 : wr.cell? ⟨BT, 0, none⟩ = some (.int .i64 t.h.id) := cell_at b2 0
                            have g1 : wr.cell? ⟨BW, 1, none⟩ = some (.int .i64 px) := cell_at b1 1
                            have hbl : bs < wr.heap.size := Nat.lt_of_lt_of_le hsl LW.size
                            obtain ⟨tid, htid⟩ : ∃ x, t.h.id = x := ⟨_, rfl⟩
                            have HTI : Hid (t.h.id = tid) := htid
                            rw [htid] at g0
                            obtain ⟨dn, hdn⟩ : ∃ x : Int, (n : Int) = x := ⟨_, rfl⟩
                            obtain ⟨zz, hzz⟩ : ∃ zz, 1440 * (n : Int) + ar = zz := ⟨_, rfl⟩
                            have HZZ : Hid (1440 * (n : Int) + ar = zz) := hzz
                            have hzb : 0 ≤ zz ∧ zz ≤ 200000000 := by omega
                            have hw1 : IntKind.i64.wrap (1440 * (n : Int)) = 1440 * (n : Int) := by rw [IntKind.wrap_i64]; omega
                            have hw2 : IntKind.i64.wrap zz = zz := by rw [IntKind.wrap_i64]; omega
                            clear hts HGm hh hst9 har9 htid s2 HGo hdn
                            go_upto_region 21 with fail
                            go_cut [18] from 91 to 130 (fun x wc => x = .pointer (some ⟨wr.heap.size, 0, none⟩) ∧ wc = (wr.alloc (.cells #[.int .i64 tid, .int .i64 n, .int .i64 px, .int .i64 st] 37)).drew)
                            case first =>
                              have KZ : Below wr.heap.size wr (wr.alloc (.cells #[.int .i64 0, .int .i64 0, .int .i64 0, .int .i64 0] 37)).drew := (new_below wr _).drew
                              have KY : Below wr.heap.size wr (wr.alloc (.cells #[.int .i64 tid, .int .i64 n, .int .i64 px, .int .i64 st] 37)).drew := (new_below wr _).drew
                              have HK : Hid (∀ w', Below wr.heap.size wr w' → w'.cell? ⟨BT, 0, none⟩ = some (.int .i64 tid) ∧ w'.cell? ⟨BW, 1, none⟩ = some (.int .i64 px) ∧ w'.cell? ⟨BT, 4, none⟩ = some (.slice (some ⟨bs, os, none⟩) t.l.length sc) ∧ w'.cell? ⟨bs, os + m * 3, none⟩ = some (.int .i64 st)) := fun w' K => ⟨(K.cell (p := ⟨BT, 0, none⟩) (lt_of b2)).trans g0, (K.cell (p := ⟨BW, 1, none⟩) (lt_of b1)).trans g1, (K.cell (p := ⟨BT, 4, none⟩) (lt_of b2)).trans f4, (K.cell (p := ⟨bs, os + m * 3, none⟩) hbl).trans s0⟩
                              refine wp_region_held_drew (S := (fun w' => w'.cell? ⟨BT, 0, none⟩ = some (.int .i64 tid) ∧ w'.cell? ⟨BW, 1, none⟩ = some (.int .i64 px) ∧ w'.cell? ⟨BT, 4, none⟩ = some (.slice (some ⟨bs, os, none⟩) t.l.length sc) ∧ w'.cell? ⟨bs, os + m * 3, none⟩ = some (.int .i64 st))) (by kernel_rfl) ?_ (fun hHeld => ?_)
                              · exact HK.out _ ((Below.refl _ _).drew)
                              refine wpAnyH_take (i := 0) (v := .pointer (some ⟨BT, 0, none⟩)) rfl (by kernel_rfl) (by kernel_rfl) (by kernel_rfl) (fun _ _ _ h => h) (Or.inl ⟨by kernel_rfl, fun w hSw => by first | (go_simp; done) | (dsimp only at hSw; obtain ⟨hS0, hS1, hS2, hS3⟩ := hSw; go_simp; done) | rfl⟩) (by assumption) ?_
                              simp only [Act.put, List.getElem_toArray, List.getElem_cons_succ, List.getElem_cons_zero, List.setIfInBounds_toArray, List.set_cons_succ, List.set_cons_zero]
                              refine wpAnyH_take (i := 1) (v := .int .i64 tid) rfl (by kernel_rfl) (by kernel_rfl) (by kernel_rfl) (fun _ _ _ h => h) (Or.inl ⟨by kernel_rfl, fun w hSw => by first | (go_simp; done) | (dsimp only at hSw; obtain ⟨hS0, hS1, hS2, hS3⟩ := hSw; go_simp; done) | rfl⟩) (by assumption) ?_
                              simp only [Act.put, List.getElem_toArray, List.getElem_cons_succ, List.getElem_cons_zero, List.setIfInBounds_toArray, List.set_cons_succ, List.set_cons_zero]
                              refine wpAnyH_take (i := 2) (v := .int .i64 n) rfl (by kernel_rfl) (by kernel_rfl) (by kernel_rfl) (fun _ _ _ h => h) (Or.inl ⟨by kernel_rfl, fun w hSw => by first | (go_simp; done) | (dsimp only at hSw; obtain ⟨hS0, hS1, hS2, hS3⟩ := hSw; go_simp; done) | rfl⟩) (by assumption) ?_
                              simp only [Act.put, List.getElem_toArray, List.getElem_cons_succ, List.getElem_cons_zero, List.setIfInBounds_toArray, List.set_cons_succ, List.set_cons_zero]
                              refine wpAnyH_take (i := 3) (v := .pointer (some ⟨BW, 1, none⟩)) rfl (by kernel_rfl) (by kernel_rfl) (by kernel_rfl) (fun _ _ _ h => h) (Or.inl ⟨by kernel_rfl, fun w hSw => by first | (go_simp; done) | (dsimp only at hSw; obtain ⟨hS0, hS1, hS2, hS3⟩ := hSw; go_simp; done) | rfl⟩) (by assumption) ?_
                              simp only [Act.put, List.getElem_toArray, List.getElem_cons_succ, List.getElem_cons_zero, List.setIfInBounds_toArray, List.set_cons_succ, List.set_cons_zero]
                              refine wpAnyH_take (i := 4) (v := .int .i64 px) rfl (by kernel_rfl) (by kernel_rfl) (by kernel_rfl) (fun _ _ _ h => h) (Or.inl ⟨by kernel_rfl, fun w hSw => by first | (go_simp; done) | (dsimp only at hSw; obtain ⟨hS0, hS1, hS2, hS3⟩ := hSw; go_simp; done) | rfl⟩) (by assumption) ?_
                              simp only [Act.put, List.getElem_toArray, List.getElem_cons_succ, List.getElem_cons_zero, List.setIfInBounds_toArray, List.set_cons_succ, List.set_cons_zero]
                              refine wpAnyH_take (i := 5) (v := .pointer (some ⟨BT, 4, none⟩)) rfl (by kernel_rfl) (by kernel_rfl) (by kernel_rfl) (fun _ _ _ h => h) (Or.inl ⟨by kernel_rfl, fun w hSw => by first | (go_simp; done) | (dsimp only at hSw; obtain ⟨hS0, hS1, hS2, hS3⟩ := hSw; go_simp; done) | rfl⟩) (by assumption) ?_
                              simp only [Act.put, List.getElem_toArray, List.getElem_cons_succ, List.getElem_cons_zero, List.setIfInBounds_toArray, List.set_cons_succ, List.set_cons_zero]
                              refine wpAnyH_take (i := 6) (v := .slice (some ⟨bs, os, none⟩) t.l.length sc) rfl (by kernel_rfl) (by kernel_rfl) (by kernel_rfl) (fun _ _ _ h => h) (Or.inl ⟨by kernel_rfl, fun w hSw => by first | (go_simp; done) | (dsimp only at hSw; obtain ⟨hS0, hS1, hS2, hS3⟩ := hSw; go_simp; done) | rfl⟩) (by assumption) ?_
                              simp only [Act.put, List.getElem_toArray, List.getElem_cons_succ, List.getElem_cons_zero, List.setIfInBounds_toArray, List.set_cons_succ, List.set_cons_zero]
                              refine wpAnyH_take (i := 7) (v := .int .i64 m) rfl (by kernel_rfl) (by kernel_rfl) (by kernel_rfl) (fun _ _ _ h => h) (Or.inl ⟨by kernel_rfl, fun w hSw => by first | (go_simp; done) | (dsimp only at hSw; obtain ⟨hS0, hS1, hS2, hS3⟩ := hSw; go_simp; done) | rfl⟩) (by assumption) ?_
                              simp only [Act.put, List.getElem_toArray, List.getElem_cons_succ, List.getElem_cons_zero, List.setIfInBounds_toArray, List.set_cons_succ, List.set_cons_zero]
                              refine wpAnyH_take (i := 8) (v := .pointer (some ⟨bs, os + m * 3, none⟩)) rfl (by kernel_rfl) (by kernel_rfl) (by kernel_rfl) (fun _ _ _ h => h) (Or.inl ⟨by kernel_rfl, fun w hSw => by first | (go_simp; done) | (dsimp only at hSw; obtain ⟨hS0, hS1, hS2, hS3⟩ := hSw; go_simp; done) | rfl⟩) (by assumption) ?_
                              simp only [Act.put, List.getElem_toArray, List.getElem_cons_succ, List.getElem_cons_zero, List.setIfInBounds_toArray, List.set_cons_succ, List.set_cons_zero]
                              refine wpAnyH_take (i := 9) (v := .pointer (some ⟨bs, os + m * 3, none⟩)) rfl (by kernel_rfl) (by kernel_rfl) (by kernel_rfl) (fun _ _ _ h => h) (Or.inl ⟨by kernel_rfl, fun w hSw => by first | (go_simp; done) | (dsimp only at hSw; obtain ⟨hS0, hS1, hS2, hS3⟩ := hSw; go_simp; done) | rfl⟩) (by assumption) ?_
                              simp only [Act.put, List.getElem_toArray, List.getElem_cons_succ, List.getElem_cons_zero, List.setIfInBounds_toArray, List.set_cons_succ, List.set_cons_zero]
                              refine wpAnyH_take (i := 10) (v := .int .i64 st) rfl (by kernel_rfl) (by kernel_rfl) (by kernel_rfl) (fun _ _ _ h => h) (Or.inl ⟨by kernel_rfl, fun w hSw => by first | (go_simp; done) | (dsimp only at hSw; obtain ⟨hS0, hS1, hS2, hS3⟩ := hSw; go_simp; done) | rfl⟩) (by assumption) ?_
                              simp only [Act.put, List.getElem_toArray, List.getElem_cons_succ, List.getElem_cons_zero, List.setIfInBounds_toArray, List.set_cons_succ, List.set_cons_zero]
                              refine wpAnyH_take (i := 11) (v := .agg #[.int .i64 tid, .int .i64 n, .int .i64 px, .int .i64 st]) rfl (by kernel_rfl) (by kernel_rfl) (by kernel_rfl) (fun _ _ _ h => h) (Or.inl ⟨by kernel_rfl, fun w hSw => by first | (go_simp; done) | (dsimp only at hSw; obtain ⟨hS0, hS1, hS2, hS3⟩ := hSw; go_simp; done) | rfl⟩) (by assumption) ?_
                              simp only [Act.put, List.getElem_toArray, List.getElem_cons_succ, List.getElem_cons_zero, List.setIfInBounds_toArray, List.set_cons_succ, List.set_cons_zero]
                              refine wpAnyH_ready (rs := [12]) (by kernel_rfl) (by simp) ?_
                              refine AllReadyH.cons rfl (fun K hK => ?_) AllReadyH.nil
                              go_simp
                              refine hK.out _ _ ?_ (fun hHeld2 => ?_)
                              · first | exact hHeld | exact HK.out _ KZ | exact HK.out _ KY
                              clear hK K hHeld
                              have hHeld := hHeld2
                              clear hHeld2
                              refine wpAnyH_ready (rs := [13]) (by kernel_rfl) (by simp) ?_
                              refine AllReadyH.cons rfl (fun K hK => ?_) AllReadyH.nil
                              go_simp
                              refine hK.out _ _ ?_ (fun hHeld2 => ?_)
                              · first | exact hHeld | exact HK.out _ KZ | exact HK.out _ KY
                              clear hK K hHeld
                              have hHeld := hHeld2
                              clear hHeld2
                              refine wpAnyH_done (by kernel_rfl) ?_ _
                              clear hHeld
                              go_wp2
                              go_meet
                              case rel => exact ⟨rfl, rfl⟩
                            case rest =>
                            obtain ⟨rfl, rfl⟩ := hcut
                            have D1 : Below wr.heap.size wr (wr.alloc (.cells #[.int .i64 tid, .int .i64 n, .int .i64 px, .int .i64 st] 37)).drew := (new_below wr _).drew
                            have r0 : (wr.alloc (.cells #[.int .i64 tid, .int .i64 n, .int .i64 px, .int .i64 st] 37)).drew.heap[wr.heap.size]? = some (.cells #[.int .i64 tid, .int .i64 n, .int .i64 px, .int .i64 st] 37) := heap_new wr _
                            have LX := LW.trans (D1.mono LW.size)
                            have HLX : Hid (Lw (wr.alloc (.cells #[.int .i64 tid, .int .i64 n, .int .i64 px, .int .i64 st] 37)).drew w.heap.size vo qs) := HL.out.on D1
                            have x1 := kept D1 (lt_of b1) b1
                            have x2 := kept D1 (lt_of b2) b2
                            have sX := (D1.cell (p := ⟨bs, os + m * 3 + 1, none⟩) hbl).trans s1
                            have hblX : bs < (wr.alloc (.cells #[.int .i64 tid, .int .i64 n, .int .i64 px, .int .i64 st] 37)).drew.heap.size := Nat.lt_of_lt_of_le hbl D1.size
                            clear s0 s1 g0 g1 f4 b1 b2 HL LW D1 hbl
                            generalize hw15 : (wr.alloc (.cells #[.int .i64 tid, .int .i64 n, .int .i64 px, .int .i64 st] 37)).drew = w15 at *
                            generalize wr.heap.size = BR at *
                            clear hw15
                            have y0 : w15.cell? ⟨BW, 0, none⟩ = some (.slice pa pp.length pc) := cell_at x1 0
                            have y1 : w15.cell? ⟨BR, 0, none⟩ = some (.int .i64 tid) := cell_at r0 0
                            have y2 : w15.cell? ⟨BR, 1, none⟩ = some (.int .i64 n) := cell_at r0 1
                            have y3 : w15.cell? ⟨BR, 2, none⟩ = some (.int .i64 px) := cell_at r0 2
                            have y4 : w15.cell? ⟨BR, 3, none⟩ = some (.int .i64 st) := cell_at r0 3
                            have y5 : w15.cell? ⟨BT, 4, none⟩ = some (.slice (some ⟨bs, os, none⟩) t.l.length sc) := cell_at x2 4
                            have HK : Hid (∀ w', Below w15.heap.size w15 w' → w'.cell? ⟨BW, 0, none⟩ = some (.slice pa pp.length pc) ∧ w'.cell? ⟨BR, 0, none⟩ = some (.int .i64 tid) ∧ w'.cell? ⟨BR, 1, none⟩ = some (.int .i64 n) ∧ w'.cell? ⟨BR, 2, none⟩ = some (.int .i64 px) ∧ w'.cell? ⟨BR, 3, none⟩ = some (.int .i64 st) ∧ w'.cell? ⟨BT, 4, none⟩ = some (.slice (some ⟨bs, os, none⟩) t.l.length sc) ∧ w'.cell? ⟨bs, os + m * 3 + 1, none⟩ = some (.int .i64 ar)) := fun w' K => ⟨(K.cell (p := ⟨BW, 0, none⟩) (lt_of x1)).trans y0, (K.cell (p := ⟨BR, 0, none⟩) (lt_of r0)).trans y1, (K.cell (p := ⟨BR, 1, none⟩) (lt_of r0)).trans y2, (K.cell (p := ⟨BR, 2, none⟩) (lt_of r0)).trans y3, (K.cell (p := ⟨BR, 3, none⟩) (lt_of r0)).trans y4, (K.cell (p := ⟨BT, 4, none⟩) (lt_of x2)).trans y5, (K.cell (p := ⟨bs, os + m * 3 + 1, none⟩) hblX).trans sX⟩
                            obtain ⟨i1, hi1, hj0, hj1, hj2⟩ := info_of info_ride'
                            have RAX := RA.on LX
                            have RF : Hid (∀ w', Below w15.heap.size w15 w' → (ridesOf pp).length = 0 ∨ ∃ g, pa = some ⟨g, 0, none⟩ ∧ Rides w' (some ⟨g, 0, none⟩) (ridesOf pp)) := fun w' K => (RAX.on K).form
                            have hnil2 : Hid ((ridesOf pp).length = 0 → Value.slice pa pp.length pc = .slice none 0 0) := fun e => hnil (by rw [ridesOf_length] at e; exact e)
                            have KA1 : Below w15.heap.size w15 (w15.alloc (.cells #[] 37)).drew := (new_below w15 _).drew
                            have KA2 : Below w15.heap.size w15 ((w15.alloc (.cells #[] 37)).alloc (.cells #[.int .i64 tid, .int .i64 n, .int .i64 px, .int .i64 st] 37)).drew := ((new_below w15 _).alloc (new_below w15 _).size _).drew
                            have KB1 : Below w15.heap.size w15 (w15.alloc (.cells #[.int .i64 tid, .int .i64 n, .int .i64 px, .int .i64 st] 37)).drew := (new_below w15 _).drew
                            have KB2 : Below w15.heap.size w15 ((w15.alloc (.cells #[.int .i64 tid, .int .i64 n, .int .i64 px, .int .i64 st] 37)).alloc (.cells #[] 37)).drew := ((new_below w15 _).alloc (new_below w15 _).size _).drew
                            have eA : (w15.alloc (.cells #[] 37)).heap.size = w15.heap.size + 1 := Array.size_push ..
                            have eB : (w15.alloc (.cells #[.int .i64 tid, .int .i64 n, .int .i64 px, .int .i64 st] 37)).heap.size = w15.heap.size + 1 := Array.size_push ..
                            have OA1 : (w15.alloc (.cells #[] 37)).drew.ownsRow w15.heap.size 37 4 (.slice (some ⟨w15.heap.size, 0, none⟩) 0 0) 0 [] := own_empty w15 w15.heap.size 37 4 (Nat.le_refl _)
                            have OA2 : ((w15.alloc (.cells #[] 37)).alloc (.cells #[.int .i64 tid, .int .i64 n, .int .i64 px, .int .i64 st] 37)).drew.ownsRow w15.heap.size 37 4 (.slice (some ⟨w15.heap.size, 0, none⟩) 0 0) 0 [] := Pk.own_below (own_empty w15 w15.heap.size 37 4 (Nat.le_refl _)) ((new_below _ _).drew) (Nat.le_refl _)
                            have OB2 : ((w15.alloc (.cells #[.int .i64 tid, .int .i64 n, .int .i64 px, .int .i64 st] 37)).alloc (.cells #[] 37)).drew.ownsRow w15.heap.size 37 4 (.slice (some ⟨w15.heap.size + 1, 0, none⟩) 0 0) 0 [] := by
                              have h := own_empty (w15.alloc (.cells #[.int .i64 tid, .int .i64 n, .int .i64 px, .int .i64 st] 37)) w15.heap.size 37 4 (by omega)
                              rw [eB] at h
                              exact h
                            have MA2 : ((w15.alloc (.cells #[] 37)).alloc (.cells #[.int .i64 tid, .int .i64 n, .int .i64 px, .int .i64 st] 37)).drew.heap[w15.heap.size + 1]? = some (.cells #[.int .i64 tid, .int .i64 n, .int .i64 px, .int .i64 st] 37) := by
                              have h := heap_new (w15.alloc (.cells #[] 37)) (.cells #[.int .i64 tid, .int .i64 n, .int .i64 px, .int .i64 st] 37)
                              rw [eA] at h
                              exact h
                            have MB2 : ((w15.alloc (.cells #[.int .i64 tid, .int .i64 n, .int .i64 px, .int .i64 st] 37)).alloc (.cells #[] 37)).drew.heap[w15.heap.size]? = some (.cells #[.int .i64 tid, .int .i64 n, .int .i64 px, .int .i64 st] 37) := kept ((new_below _ _).drew) (lt_of (heap_new w15 (.cells #[.int .i64 tid, .int .i64 n, .int .i64 px, .int .i64 st] 37))) (heap_new w15 (.cells #[.int .i64 tid, .int .i64 n, .int .i64 px, .int .i64 st] 37))
                            have hqs := HG.out _ _ HGh.out
                            have hqn : qs.length ≤ 1000000 := Nat.le_trans hqs.1 (by omega)
                            have HQS : Hid (∀ p ∈ qs, p.o.p.length ≤ 1000) := hqs.2
                            clear eA eB y0 y1 y2 y3 y4 y5 sX hblX RAX hqs
                            go_wp2
                            refine wp_region_held_drew (S := (fun w' => w'.cell? ⟨BW, 0, none⟩ = some (.slice pa pp.length pc) ∧ w'.cell? ⟨BR, 0, none⟩ = some (.int .i64 tid) ∧ w'.cell? ⟨BR, 1, none⟩ = some (.int .i64 n) ∧ w'.cell? ⟨BR, 2, none⟩ = some (.int .i64 px) ∧ w'.cell? ⟨BR, 3, none⟩ = some (.int .i64 st) ∧ w'.cell? ⟨BT, 4, none⟩ = some (.slice (some ⟨bs, os, none⟩) t.l.length sc) ∧ w'.cell? ⟨bs, os + m * 3 + 1, none⟩ = some (.int .i64 ar))) (by kernel_rfl) ?_ (fun hHeld => ?_)
                            · exact HK.out _ ((Below.refl _ _).drew)
                            refine wpAnyH_take (i := 0) (v := vo) rfl (by kernel_rfl) (by kernel_rfl) (by kernel_rfl) (fun _ _ _ h => h) (Or.inl ⟨by kernel_rfl, fun w hSw => by first | (go_simp; done) | (dsimp only at hSw; obtain ⟨hS0, hS1, hS2, hS3, hS4, hS5, hS6⟩ := hSw; go_simp; done) | rfl⟩) (by assumption) ?_
                            simp only [Act.put, List.getElem_toArray, List.getElem_cons_succ, List.getElem_cons_zero, List.setIfInBounds_toArray, List.set_cons_succ, List.set_cons_zero]
                            refine wpAnyH_take (i := 2) (v := .pointer (some ⟨BW, 0, none⟩)) rfl (by kernel_rfl) (by kernel_rfl) (by kernel_rfl) (fun _ _ _ h => h) (Or.inl ⟨by kernel_rfl, fun w hSw => by first | (go_simp; done) | (dsimp only at hSw; obtain ⟨hS0, hS1, hS2, hS3, hS4, hS5, hS6⟩ := hSw; go_simp; done) | rfl⟩) (by assumption) ?_
                            simp only [Act.put, List.getElem_toArray, List.getElem_cons_succ, List.getElem_cons_zero, List.setIfInBounds_toArray, List.set_cons_succ, List.set_cons_zero]
                            refine wpAnyH_take (i := 3) (v := .slice pa pp.length pc) rfl (by kernel_rfl) (by kernel_rfl) (by kernel_rfl) (fun _ _ _ h => h) (Or.inl ⟨by kernel_rfl, fun w hSw => by first | (go_simp; done) | (dsimp only at hSw; obtain ⟨hS0, hS1, hS2, hS3, hS4, hS5, hS6⟩ := hSw; go_simp; done) | rfl⟩) (by assumption) ?_
                            simp only [Act.put, List.getElem_toArray, List.getElem_cons_succ, List.getElem_cons_zero, List.setIfInBounds_toArray, List.set_cons_succ, List.set_cons_zero]
                            refine wpAnyH_take (i := 5) (v := .agg #[.int .i64 tid, .int .i64 n, .int .i64 px, .int .i64 st]) rfl (by kernel_rfl) (by kernel_rfl) (by kernel_rfl) (fun _ _ _ h => h) (Or.inl ⟨by kernel_rfl, fun w hSw => by first | (go_simp; done) | (dsimp only at hSw; obtain ⟨hS0, hS1, hS2, hS3, hS4, hS5, hS6⟩ := hSw; go_simp; done) | rfl⟩) (by assumption) ?_
                            simp only [Act.put, List.getElem_toArray, List.getElem_cons_succ, List.getElem_cons_zero, List.setIfInBounds_toArray, List.set_cons_succ, List.set_cons_zero]
                            refine wpAnyH_take (i := 8) (v := .pointer (some ⟨BR, 3, none⟩)) rfl (by kernel_rfl) (by kernel_rfl) (by kernel_rfl) (fun _ _ _ h => h) (Or.inl ⟨by kernel_rfl, fun w hSw => by first | (go_simp; done) | (dsimp only at hSw; obtain ⟨hS0, hS1, hS2, hS3, hS4, hS5, hS6⟩ := hSw; go_simp; done) | rfl⟩) (by assumption) ?_
                            simp only [Act.put, List.getElem_toArray, List.getElem_cons_succ, List.getElem_cons_zero, List.setIfInBounds_toArray, List.set_cons_succ, List.set_cons_zero]
                            refine wpAnyH_take (i := 9) (v := .int .i64 st) rfl (by kernel_rfl) (by kernel_rfl) (by kernel_rfl) (fun _ _ _ h => h) (Or.inl ⟨by kernel_rfl, fun w hSw => by first | (go_simp; done) | (dsimp only at hSw; obtain ⟨hS0, hS1, hS2, hS3, hS4, hS5, hS6⟩ := hSw; go_simp; done) | rfl⟩) (by assumption) ?_
                            simp only [Act.put, List.getElem_toArray, List.getElem_cons_succ, List.getElem_cons_zero, List.setIfInBounds_toArray, List.set_cons_succ, List.set_cons_zero]
                            refine wpAnyH_take (i := 10) (v := .int .i64 n) rfl (by kernel_rfl) (by kernel_rfl) (by kernel_rfl) (fun _ _ _ h => h) (Or.inl ⟨by kernel_rfl, fun w hSw => by first | (go_simp; done) | (dsimp only at hSw; obtain ⟨hS0, hS1, hS2, hS3, hS4, hS5, hS6⟩ := hSw; go_simp; done) | rfl⟩) (by assumption) ?_
                            simp only [Act.put, List.getElem_toArray, List.getElem_cons_succ, List.getElem_cons_zero, List.setIfInBounds_toArray, List.set_cons_succ, List.set_cons_zero]
                            refine wpAnyH_take (i := 11) (v := .int .i64 (1440 * (n : Int))) rfl (by kernel_rfl) (by kernel_rfl) (by kernel_rfl) (fun _ _ _ h => h) (Or.inl ⟨by kernel_rfl, fun w hSw => by first | (go_simp; done) | (dsimp only at hSw; obtain ⟨hS0, hS1, hS2, hS3, hS4, hS5, hS6⟩ := hSw; go_simp; done) | rfl⟩) (by assumption) ?_
                            simp only [Act.put, List.getElem_toArray, List.getElem_cons_succ, List.getElem_cons_zero, List.setIfInBounds_toArray, List.set_cons_succ, List.set_cons_zero]
                            refine wpAnyH_take (i := 12) (v := .pointer (some ⟨BT, 4, none⟩)) rfl (by kernel_rfl) (by kernel_rfl) (by kernel_rfl) (fun _ _ _ h => h) (Or.inl ⟨by kernel_rfl, fun w hSw => by first | (go_simp; done) | (dsimp only at hSw; obtain ⟨hS0, hS1, hS2, hS3, hS4, hS5, hS6⟩ := hSw; go_simp; done) | rfl⟩) (by assumption) ?_
                            simp only [Act.put, List.getElem_toArray, List.getElem_cons_succ, List.getElem_cons_zero, List.setIfInBounds_toArray, List.set_cons_succ, List.set_cons_zero]
                            refine wpAnyH_take (i := 13) (v := .slice (some ⟨bs, os, none⟩) t.l.length sc) rfl (by kernel_rfl) (by kernel_rfl) (by kernel_rfl) (fun _ _ _ h => h) (Or.inl ⟨by kernel_rfl, fun w hSw => by first | (go_simp; done) | (dsimp only at hSw; obtain ⟨hS0, hS1, hS2, hS3, hS4, hS5, hS6⟩ := hSw; go_simp; done) | rfl⟩) (by assumption) ?_
                            simp only [Act.put, List.getElem_toArray, List.getElem_cons_succ, List.getElem_cons_zero, List.setIfInBounds_toArray, List.set_cons_succ, List.set_cons_zero]
                            refine wpAnyH_take (i := 14) (v := .int .i64 m) rfl (by kernel_rfl) (by kernel_rfl) (by kernel_rfl) (fun _ _ _ h => h) (Or.inl ⟨by kernel_rfl, fun w hSw => by first | (go_simp; done) | (dsimp only at hSw; obtain ⟨hS0, hS1, hS2, hS3, hS4, hS5, hS6⟩ := hSw; go_simp; done) | rfl⟩) (by assumption) ?_
                            simp only [Act.put, List.getElem_toArray, List.getElem_cons_succ, List.getElem_cons_zero, List.setIfInBounds_toArray, List.set_cons_succ, List.set_cons_zero]
                            refine wpAnyH_take (i := 15) (v := .pointer (some ⟨bs, os + m * 3, none⟩)) rfl (by kernel_rfl) (by kernel_rfl) (by kernel_rfl) (fun _ _ _ h => h) (Or.inl ⟨by kernel_rfl, fun w hSw => by first | (go_simp; done) | (dsimp only at hSw; obtain ⟨hS0, hS1, hS2, hS3, hS4, hS5, hS6⟩ := hSw; go_simp; done) | rfl⟩) (by assumption) ?_
                            simp only [Act.put, List.getElem_toArray, List.getElem_cons_succ, List.getElem_cons_zero, List.setIfInBounds_toArray, List.set_cons_succ, List.set_cons_zero]
                            refine wpAnyH_take (i := 16) (v := .pointer (some ⟨bs, os + m * 3 + 1, none⟩)) rfl (by kernel_rfl) (by kernel_rfl) (by kernel_rfl) (fun _ _ _ h => h) (Or.inl ⟨by kernel_rfl, fun w hSw => by first | (go_simp; done) | (dsimp only at hSw; obtain ⟨hS0, hS1, hS2, hS3, hS4, hS5, hS6⟩ := hSw; go_simp; done) | rfl⟩) (by assumption) ?_
                            simp only [Act.put, List.getElem_toArray, List.getElem_cons_succ, List.getElem_cons_zero, List.setIfInBounds_toArray, List.set_cons_succ, List.set_cons_zero]
                            refine wpAnyH_take (i := 17) (v := .int .i64 ar) rfl (by kernel_rfl) (by kernel_rfl) (by kernel_rfl) (fun _ _ _ h => h) (Or.inl ⟨by kernel_rfl, fun w hSw => by first | (go_simp; done) | (dsimp only at hSw; obtain ⟨hS0, hS1, hS2, hS3, hS4, hS5, hS6⟩ := hSw; go_simp; done) | rfl⟩) (by assumption) ?_
                            simp only [Act.put, List.getElem_toArray, List.getElem_cons_succ, List.getElem_cons_zero, List.setIfInBounds_toArray, List.set_cons_succ, List.set_cons_zero]
                            refine wpAnyH_take (i := 18) (v := .int .i64 zz) rfl (by kernel_rfl) (by kernel_rfl) (by kernel_rfl) (fun _ _ _ h => h) (Or.inl ⟨by kernel_rfl, fun w hSw => by first | (go_simp; done) | (dsimp only at hSw; obtain ⟨hS0, hS1, hS2, hS3, hS4, hS5, hS6⟩ := hSw; go_simp; done) | rfl⟩) (by assumption) ?_
                            simp only [Act.put, List.getElem_toArray, List.getElem_cons_succ, List.getElem_cons_zero, List.setIfInBounds_toArray, List.set_cons_succ, List.set_cons_zero]
                            refine wpAnyH_ready (rs := [1, 6]) (by kernel_rfl) (by simp) ?_
                            refine AllReadyH.cons rfl (fun K hK => ?_) (AllReadyH.cons rfl (fun K hK => ?_) (AllReadyH.nil))
                            · go_simp
                              refine hK.out _ _ ?_ (fun hHeld2 => ?_)
                              · first | exact hHeld | exact HK.out _ KA1 | exact HK.out _ KB1 | exact HK.out _ KA2 | exact HK.out _ KB2 | exact HK.out _ K4 | exact HK.out _ (K4.alloc K4.size _) | exact HK.out _ K7 | exact HK.out _ (K7.alloc K7.size _) | exact HK.out _ K7.drew | exact HS9.out _ G9
                              clear hK K hHeld
                              have hHeld := hHeld2
                              clear hHeld2
                              refine wpAnyH_ready (rs := [4, 6]) (by kernel_rfl) (by simp) ?_
                              refine AllReadyH.cons rfl (fun K hK => ?_) (AllReadyH.cons rfl (fun K hK => ?_) (AllReadyH.nil))
                              · rw [if_pos (by kernel_rfl)]
                                refine wp_append_rides _ _ 27 rfl w15.heap.size 37 i1 (lgV ⟨0, 0, 0, 0⟩) Try.underlying27 hi1 hj0 hj1 hj2 rfl _ 0 [] rfl (by first | exact OA1 | exact OA2 | exact OB2) (ridesOf pp) pa pp.length pc (by rw [ridesOf_length]) rfl hnil2.out (by first | exact RF.out _ KA1 | exact RF.out _ KA2 | exact RF.out _ KB2) (by omega) (by first | exact KA1.size | exact KA2.size | exact KB2.size) ?_
                                intro v4 u4 O4 G4 hl4
                                have K4 : Below w15.heap.size w15 u4 := by first | exact KA1.grown G4 KA1.size (fun k hk => by cases hk; exact Nat.le_refl _) | exact KA2.grown G4 KA2.size (fun k hk => by cases hk; exact Nat.le_refl _) | exact KB2.grown G4 KB2.size (fun k hk => by cases hk; exact Nat.le_succ _)
                                first | (have m6 : u4.heap[w15.heap.size + 1]? = some (.cells #[.int .i64 tid, .int .i64 n, .int .i64 px, .int .i64 st] 37) := (G4.block _ (lt_of MA2) (fun h => by have h' : some (w15.heap.size + 1) = some w15.heap.size := h; have h2 := Option.some.inj h'; omega)).trans MA2) | (have m6 : u4.heap[w15.heap.size]? = some (.cells #[.int .i64 tid, .int .i64 n, .int .i64 px, .int .i64 st] 37) := (G4.block _ (lt_of MB2) (fun h => by have h' : some w15.heap.size = some (w15.heap.size + 1) := h; have h2 := Option.some.inj h'; omega)).trans MB2) | skip
                                try simp only [Act.put, List.getElem_toArray, List.getElem_cons_succ, List.getElem_cons_zero, List.setIfInBounds_toArray, List.set_cons_succ, List.set_cons_zero]
                                refine hK.out _ _ ?_ (fun hHeld2 => ?_)
                                · first | exact hHeld | exact HK.out _ KA1 | exact HK.out _ KB1 | exact HK.out _ KA2 | exact HK.out _ KB2 | exact HK.out _ K4 | exact HK.out _ (K4.alloc K4.size _) | exact HK.out _ K7 | exact HK.out _ (K7.alloc K7.size _) | exact HK.out _ K7.drew | exact HS9.out _ G9
                                clear hK K hHeld
                                have hHeld := hHeld2
                                clear hHeld2
                                refine wpAnyH_ready (rs := [6]) (by kernel_rfl) (by simp) ?_
                                refine AllReadyH.cons rfl (fun K hK => ?_) (AllReadyH.nil)
                                go_simp
                                refine hK.out _ _ ?_ (fun hHeld2 => ?_)
                                · first | exact hHeld | exact HK.out _ KA1 | exact HK.out _ KB1 | exact HK.out _ KA2 | exact HK.out _ KB2 | exact HK.out _ K4 | exact HK.out _ (K4.alloc K4.size _) | exact HK.out _ K7 | exact HK.out _ (K7.alloc K7.size _) | exact HK.out _ K7.drew | exact HS9.out _ G9
                                clear hK K hHeld
                                have hHeld := hHeld2
                                clear hHeld2
                                refine wpAnyH_ready (rs := [7]) (by kernel_rfl) (by simp) ?_
                                refine AllReadyH.cons rfl (fun K hK => ?_) (AllReadyH.nil)
                                rw [if_pos (by kernel_rfl)]
                                refine wp_append_at _ _ 27 rfl w15.heap.size 37 i1 (lgV ⟨0, 0, 0, 0⟩) 4 32 Try.underlying27 hi1 hj0 hj1 hj2 rfl (by omega) _ (0 + pp.length) ([] ++ rcells (ridesOf pp)) rfl (by first | exact O4 | exact Pk.own_below O4 (new_below u4 _) (Nat.le_refl _)) _ 1 1 [.int .i64 tid, .int .i64 n, .int .i64 px, .int .i64 st] rfl rfl (four_new (by first | exact m6 | exact heap_new u4 _)) (by simp [Value.oneCell', Value.cells]) (by unfold maxLen; omega) (by omega) (by first | exact K4.size | exact Nat.le_trans K4.size (new_below u4 _).size) ?_
                                intro v7 u7 O7 G7 hl7
                                have K7 : Below w15.heap.size w15 u7 := by first | exact K4.grown G7 K4.size (fun k hk => (O4.lt k hk).1) | exact (K4.alloc K4.size _).grown G7 (Nat.le_trans K4.size (new_below u4 _).size) (fun k hk => (O4.lt k hk).1)
                                rw [Nat.zero_add] at O7
                                obtain ⟨a7, c7, rfl, -⟩ := own_form O7
                                have HX7 := HLX.out.on K7
                                have hhr := HH.out.1
                                have hhz : h.z = zz := HH.out.2.trans HZZ.out
                                have hql : (pp ++ [h]).length = pp.length + 1 := by simp
                                have hrc : [] ++ rcells (ridesOf pp) ++ [.int .i64 tid, .int .i64 n, .int .i64 px, .int .i64 st] = rcells (ridesOf (pp ++ [h])) := by
                                  rw [ridesOf_append, rcells_append, List.nil_append]
                                  congr 1
                                  show _ = rcells [h.r]
                                  rw [hhr, HTI.out]
                                  rfl
                                rw [hrc] at O7
                                have RA7 : RideAt u7 w15.heap.size a7 c7 (ridesOf (pp ++ [h])) := ride_own O7 (by rw [ridesOf_length, hql])
                                have HKP := specKeep_val qs ⟨a7, c7, cand ⟨pp, px, pz⟩ h⟩ w.heap.size vo u7 hqn HQS.out (by show (pp ++ [h]).length ≤ 1000; omega) (Nat.le_trans LX.size K7.size) HX7 (RA7.lower LX.size)
                                have hv : (⟨a7, c7, cand ⟨pp, px, pz⟩ h⟩ : Pw).v = .agg #[.slice a7 (pp.length + 1) c7, .int .i64 st, .int .i64 zz] := by
                                  show Value.agg #[.slice a7 (pp ++ [h]).length c7, .int .i64 h.r.to, .int .i64 h.z] = _
                                  rw [hql, hhr, hhz]
                                rw [hv] at HKP
                                clear hv hrc hql hhr hhz RA7 O7
                                have HS9 : Hid (∀ w', u7.grownBy w' vo.ownBlock → w'.cell? ⟨BW, 0, none⟩ = some (.slice pa pp.length pc) ∧ w'.cell? ⟨BR, 0, none⟩ = some (.int .i64 tid) ∧ w'.cell? ⟨BR, 1, none⟩ = some (.int .i64 n) ∧ w'.cell? ⟨BR, 2, none⟩ = some (.int .i64 px) ∧ w'.cell? ⟨BR, 3, none⟩ = some (.int .i64 st) ∧ w'.cell? ⟨BT, 4, none⟩ = some (.slice (some ⟨bs, os, none⟩) t.l.length sc) ∧ w'.cell? ⟨bs, os + m * 3 + 1, none⟩ = some (.int .i64 ar)) := by
                                  intro w' G
                                  obtain ⟨q0, q1, q2, q3, q4, q5, q6⟩ := HK.out _ K7
                                  have nb : some BW ≠ vo.ownBlock := fun e => (HOF.out BW e.symm).1 rfl
                                  have nt : some BT ≠ vo.ownBlock := fun e => (HOF.out BT e.symm).2 rfl
                                  have nr : some BR ≠ vo.ownBlock := Pk.own_ne HX7.own (kept K7 (lt_of r0) r0) (by decide)
                                  have ns : some bs ≠ vo.ownBlock := fun e => by
                                    have := (HX7.own.lt bs e.symm).1
                                    omega
                                  have hb := G.block BW (lt_of (kept K7 (lt_of x1) x1)) nb
                                  have ht := G.block BT (lt_of (kept K7 (lt_of x2) x2)) nt
                                  have hr := G.block BR (lt_of (kept K7 (lt_of r0) r0)) nr
                                  have hs := G.block bs (by have := LX.size; have := K7.size; omega) ns
                                  exact ⟨(World.cell?_of_block (a := ⟨BW, 0, none⟩) hb).trans q0, (World.cell?_of_block (a := ⟨BR, 0, none⟩) hr).trans q1, (World.cell?_of_block (a := ⟨BR, 1, none⟩) hr).trans q2, (World.cell?_of_block (a := ⟨BR, 2, none⟩) hr).trans q3, (World.cell?_of_block (a := ⟨BR, 3, none⟩) hr).trans q4, (World.cell?_of_block (a := ⟨BT, 4, none⟩) ht).trans q5, (World.cell?_of_block (a := ⟨bs, os + m * 3 + 1, none⟩) hs).trans q6⟩
                                try simp only [Act.put, List.getElem_toArray, List.getElem_cons_succ, List.getElem_cons_zero, List.setIfInBounds_toArray, List.set_cons_succ, List.set_cons_zero]
                                refine hK.out _ _ ?_ (fun hHeld2 => ?_)
                                · first | exact hHeld | exact HK.out _ KA1 | exact HK.out _ KB1 | exact HK.out _ KA2 | exact HK.out _ KB2 | exact HK.out _ K4 | exact HK.out _ (K4.alloc K4.size _) | exact HK.out _ K7 | exact HK.out _ (K7.alloc K7.size _) | exact HK.out _ K7.drew | exact HS9.out _ G9
                                clear hK K hHeld
                                have hHeld := hHeld2
                                clear hHeld2
                                refine wpAnyH_take (i := 19) (v := .agg #[.slice a7 (pp.length + 1) c7, .int .i64 st, .int .i64 zz]) rfl (by kernel_rfl) (by kernel_rfl) (by kernel_rfl) (fun _ _ _ h => h) (Or.inl ⟨by kernel_rfl, fun w hSw => by first | (go_simp; done) | (dsimp only at hSw; obtain ⟨hS0, hS1, hS2, hS3, hS4, hS5, hS6⟩ := hSw; go_simp; done) | rfl⟩) (by assumption) ?_
                                simp only [Act.put, List.getElem_toArray, List.getElem_cons_succ, List.getElem_cons_zero, List.setIfInBounds_toArray, List.set_cons_succ, List.set_cons_zero]
                                refine wpAnyH_ready (rs := [20]) (by kernel_rfl) (by simp) ?_
                                refine AllReadyH.cons rfl (fun K hK => ?_) AllReadyH.nil
                                go_simp
                                go_wp2_with (go_at_call 58; (with_reducible refine HKP.mono ?_); rintro e u9 ⟨v9, rfl, HL9, G9, ho9⟩)
                                refine hK.out _ _ ?_ (fun hHeld2 => ?_)
                                · first | exact hHeld | exact HK.out _ KA1 | exact HK.out _ KB1 | exact HK.out _ KA2 | exact HK.out _ KB2 | exact HK.out _ K4 | exact HK.out _ (K4.alloc K4.size _) | exact HK.out _ K7 | exact HK.out _ (K7.alloc K7.size _) | exact HK.out _ K7.drew | exact HS9.out _ G9
                                clear hK K hHeld
                                have hHeld := hHeld2
                                clear hHeld2
                                refine wpAnyH_ready (rs := [21]) (by kernel_rfl) (by simp) ?_
                                refine AllReadyH.cons rfl (fun K hK => ?_) AllReadyH.nil
                                go_simp
                                refine hK.out _ _ ?_ (fun hHeld2 => ?_)
                                · first | exact hHeld | exact HK.out _ KA1 | exact HK.out _ KB1 | exact HK.out _ KA2 | exact HK.out _ KB2 | exact HK.out _ K4 | exact HK.out _ (K4.alloc K4.size _) | exact HK.out _ K7 | exact HK.out _ (K7.alloc K7.size _) | exact HK.out _ K7.drew | exact HS9.out _ G9
                                clear hK K hHeld
                                have hHeld := hHeld2
                                clear hHeld2
                                refine wpAnyH_done (by kernel_rfl) ?_ _
                                clear hHeld
                                have GS : Hid (Got WH (rem4 t n ka ⟨pp, px, pz⟩ (m + 1) (rem3 t day y ⟨pp, px, pz⟩ (j + 1) R2)) (keepP qs ⟨a7, c7, cand ⟨pp, px, pz⟩ h⟩)) := Got.step (q := ⟨a7, c7, cand ⟨pp, px, pz⟩ h⟩) HGh.out
                                have L7w := LX.trans (K7.mono LX.size)
                                have L9w : Below w.heap.size w u9 := L7w.grown G9 L7w.size (fun k hk => (HX7.own.lt k hk).1)
                                have p1 := kept K7 (lt_of x1) x1
                                have p2 := kept K7 (lt_of x2) x2
                                have z1 : u9.heap[BW]? = some (.cells #[.slice pa pp.length pc, .int .i64 px, .int .i64 pz] 70) := (G9.block BW (lt_of p1) (fun e => (HOF.out BW e.symm).1 rfl)).trans p1
                                have z2 : u9.heap[BT]? = some (.cells #[.int .i64 t.h.id, .int .i64 t.h.dy, .int .i64 t.h.co, .int .i64 t.h.se, .slice (some ⟨bs, os, none⟩) t.l.length sc] 33) := (G9.block BT (lt_of p2) (fun e => (HOF.out BT e.symm).2 rfl)).trans p2
                                have HO9 : Hid (Off v9 BW BT) := by
                                  intro g hg
                                  rcases ho9 with e | ⟨g', e, hg'⟩
                                  · rw [e] at hg; exact HOF.out g hg
                                  · rw [e] at hg
                                    simp only [Option.some.injEq] at hg
                                    subst hg
                                    have q1 := lt_of p1
                                    have q2 := lt_of p2
                                    exact ⟨by omega, by omega⟩
                                have HL9h : Hid (Lw u9 w.heap.size v9 (keepP qs ⟨a7, c7, cand ⟨pp, px, pz⟩ h⟩)) := HL9
                                clear hnil x1 x2 r0 LX HLX HOF HGh G9 ho9 p1 p2 HX7 K7 K4 HL9 L7w hl4 hl7 HS9
                                go_wp2
                                go_roundw
                                case rel => exact ⟨m + 1, v9, _, rfl, by omega, by go_num, L9w, z1, z2, HL9h, HO9, GS⟩
                                case measure => simp [intOf]; omega
                              · go_simp
                                refine hK.out _ _ ?_ (fun hHeld2 => ?_)
                                · first | exact hHeld | exact HK.out _ KA1 | exact HK.out _ KB1 | exact HK.out _ KA2 | exact HK.out _ KB2 | exact HK.out _ K4 | exact HK.out _ (K4.alloc K4.size _) | exact HK.out _ K7 | exact HK.out _ (K7.alloc K7.size _) | exact HK.out _ K7.drew | exact HS9.out _ G9
                                clear hK K hHeld
                                have hHeld := hHeld2
                                clear hHeld2
                                refine wpAnyH_ready (rs := [4]) (by kernel_rfl) (by simp) ?_
                                refine AllReadyH.cons rfl (fun K hK => ?_) (AllReadyH.nil)
                                rw [if_pos (by kernel_rfl)]
                                refine wp_append_rides _ _ 27 rfl w15.heap.size 37 i1 (lgV ⟨0, 0, 0, 0⟩) Try.underlying27 hi1 hj0 hj1 hj2 rfl _ 0 [] rfl (by first | exact OA1 | exact OA2 | exact OB2) (ridesOf pp) pa pp.length pc (by rw [ridesOf_length]) rfl hnil2.out (by first | exact RF.out _ KA1 | exact RF.out _ KA2 | exact RF.out _ KB2) (by omega) (by first | exact KA1.size | exact KA2.size | exact KB2.size) ?_
                                intro v4 u4 O4 G4 hl4
                                have K4 : Below w15.heap.size w15 u4 := by first | exact KA1.grown G4 KA1.size (fun k hk => by cases hk; exact Nat.le_refl _) | exact KA2.grown G4 KA2.size (fun k hk => by cases hk; exact Nat.le_refl _) | exact KB2.grown G4 KB2.size (fun k hk => by cases hk; exact Nat.le_succ _)
                                first | (have m6 : u4.heap[w15.heap.size + 1]? = some (.cells #[.int .i64 tid, .int .i64 n, .int .i64 px, .int .i64 st] 37) := (G4.block _ (lt_of MA2) (fun h => by have h' : some (w15.heap.size + 1) = some w15.heap.size := h; have h2 := Option.some.inj h'; omega)).trans MA2) | (have m6 : u4.heap[w15.heap.size]? = some (.cells #[.int .i64 tid, .int .i64 n, .int .i64 px, .int .i64 st] 37) := (G4.block _ (lt_of MB2) (fun h => by have h' : some w15.heap.size = some (w15.heap.size + 1) := h; have h2 := Option.some.inj h'; omega)).trans MB2) | skip
                                try simp only [Act.put, List.getElem_toArray, List.getElem_cons_succ, List.getElem_cons_zero, List.setIfInBounds_toArray, List.set_cons_succ, List.set_cons_zero]
                                refine hK.out _ _ ?_ (fun hHeld2 => ?_)
                                · first | exact hHeld | exact HK.out _ KA1 | exact HK.out _ KB1 | exact HK.out _ KA2 | exact HK.out _ KB2 | exact HK.out _ K4 | exact HK.out _ (K4.alloc K4.size _) | exact HK.out _ K7 | exact HK.out _ (K7.alloc K7.size _) | exact HK.out _ K7.drew | exact HS9.out _ G9
                                clear hK K hHeld
                                have hHeld := hHeld2
                                clear hHeld2
                                refine wpAnyH_ready (rs := [7]) (by kernel_rfl) (by simp) ?_
                                refine AllReadyH.cons rfl (fun K hK => ?_) (AllReadyH.nil)
                                rw [if_pos (by kernel_rfl)]
                                refine wp_append_at _ _ 27 rfl w15.heap.size 37 i1 (lgV ⟨0, 0, 0, 0⟩) 4 32 Try.underlying27 hi1 hj0 hj1 hj2 rfl (by omega) _ (0 + pp.length) ([] ++ rcells (ridesOf pp)) rfl (by first | exact O4 | exact Pk.own_below O4 (new_below u4 _) (Nat.le_refl _)) _ 1 1 [.int .i64 tid, .int .i64 n, .int .i64 px, .int .i64 st] rfl rfl (four_new (by first | exact m6 | exact heap_new u4 _)) (by simp [Value.oneCell', Value.cells]) (by unfold maxLen; omega) (by omega) (by first | exact K4.size | exact Nat.le_trans K4.size (new_below u4 _).size) ?_
                                intro v7 u7 O7 G7 hl7
                                have K7 : Below w15.heap.size w15 u7 := by first | exact K4.grown G7 K4.size (fun k hk => (O4.lt k hk).1) | exact (K4.alloc K4.size _).grown G7 (Nat.le_trans K4.size (new_below u4 _).size) (fun k hk => (O4.lt k hk).1)
                                rw [Nat.zero_add] at O7
                                obtain ⟨a7, c7, rfl, -⟩ := own_form O7
                                have HX7 := HLX.out.on K7
                                have hhr := HH.out.1
                                have hhz : h.z = zz := HH.out.2.trans HZZ.out
                                have hql : (pp ++ [h]).length = pp.length + 1 := by simp
                                have hrc : [] ++ rcells (ridesOf pp) ++ [.int .i64 tid, .int .i64 n, .int .i64 px, .int .i64 st] = rcells (ridesOf (pp ++ [h])) := by
                                  rw [ridesOf_append, rcells_append, List.nil_append]
                                  congr 1
                                  show _ = rcells [h.r]
                                  rw [hhr, HTI.out]
                                  rfl
                                rw [hrc] at O7
                                have RA7 : RideAt u7 w15.heap.size a7 c7 (ridesOf (pp ++ [h])) := ride_own O7 (by rw [ridesOf_length, hql])
                                have HKP := specKeep_val qs ⟨a7, c7, cand ⟨pp, px, pz⟩ h⟩ w.heap.size vo u7 hqn HQS.out (by show (pp ++ [h]).length ≤ 1000; omega) (Nat.le_trans LX.size K7.size) HX7 (RA7.lower LX.size)
                                have hv : (⟨a7, c7, cand ⟨pp, px, pz⟩ h⟩ : Pw).v = .agg #[.slice a7 (pp.length + 1) c7, .int .i64 st, .int .i64 zz] := by
                                  show Value.agg #[.slice a7 (pp ++ [h]).length c7, .int .i64 h.r.to, .int .i64 h.z] = _
                                  rw [hql, hhr, hhz]
                                rw [hv] at HKP
                                clear hv hrc hql hhr hhz RA7 O7
                                have HS9 : Hid (∀ w', u7.grownBy w' vo.ownBlock → w'.cell? ⟨BW, 0, none⟩ = some (.slice pa pp.length pc) ∧ w'.cell? ⟨BR, 0, none⟩ = some (.int .i64 tid) ∧ w'.cell? ⟨BR, 1, none⟩ = some (.int .i64 n) ∧ w'.cell? ⟨BR, 2, none⟩ = some (.int .i64 px) ∧ w'.cell? ⟨BR, 3, none⟩ = some (.int .i64 st) ∧ w'.cell? ⟨BT, 4, none⟩ = some (.slice (some ⟨bs, os, none⟩) t.l.length sc) ∧ w'.cell? ⟨bs, os + m * 3 + 1, none⟩ = some (.int .i64 ar)) := by
                                  intro w' G
                                  obtain ⟨q0, q1, q2, q3, q4, q5, q6⟩ := HK.out _ K7
                                  have nb : some BW ≠ vo.ownBlock := fun e => (HOF.out BW e.symm).1 rfl
                                  have nt : some BT ≠ vo.ownBlock := fun e => (HOF.out BT e.symm).2 rfl
                                  have nr : some BR ≠ vo.ownBlock := Pk.own_ne HX7.own (kept K7 (lt_of r0) r0) (by decide)
                                  have ns : some bs ≠ vo.ownBlock := fun e => by
                                    have := (HX7.own.lt bs e.symm).1
                                    omega
                                  have hb := G.block BW (lt_of (kept K7 (lt_of x1) x1)) nb
                                  have ht := G.block BT (lt_of (kept K7 (lt_of x2) x2)) nt
                                  have hr := G.block BR (lt_of (kept K7 (lt_of r0) r0)) nr
                                  have hs := G.block bs (by have := LX.size; have := K7.size; omega) ns
                                  exact ⟨(World.cell?_of_block (a := ⟨BW, 0, none⟩) hb).trans q0, (World.cell?_of_block (a := ⟨BR, 0, none⟩) hr).trans q1, (World.cell?_of_block (a := ⟨BR, 1, none⟩) hr).trans q2, (World.cell?_of_block (a := ⟨BR, 2, none⟩) hr).trans q3, (World.cell?_of_block (a := ⟨BR, 3, none⟩) hr).trans q4, (World.cell?_of_block (a := ⟨BT, 4, none⟩) ht).trans q5, (World.cell?_of_block (a := ⟨bs, os + m * 3 + 1, none⟩) hs).trans q6⟩
                                try simp only [Act.put, List.getElem_toArray, List.getElem_cons_succ, List.getElem_cons_zero, List.setIfInBounds_toArray, List.set_cons_succ, List.set_cons_zero]
                                refine hK.out _ _ ?_ (fun hHeld2 => ?_)
                                · first | exact hHeld | exact HK.out _ KA1 | exact HK.out _ KB1 | exact HK.out _ KA2 | exact HK.out _ KB2 | exact HK.out _ K4 | exact HK.out _ (K4.alloc K4.size _) | exact HK.out _ K7 | exact HK.out _ (K7.alloc K7.size _) | exact HK.out _ K7.drew | exact HS9.out _ G9
                                clear hK K hHeld
                                have hHeld := hHeld2
                                clear hHeld2
                                refine wpAnyH_take (i := 19) (v := .agg #[.slice a7 (pp.length + 1) c7, .int .i64 st, .int .i64 zz]) rfl (by kernel_rfl) (by kernel_rfl) (by kernel_rfl) (fun _ _ _ h => h) (Or.inl ⟨by kernel_rfl, fun w hSw => by first | (go_simp; done) | (dsimp only at hSw; obtain ⟨hS0, hS1, hS2, hS3, hS4, hS5, hS6⟩ := hSw; go_simp; done) | rfl⟩) (by assumption) ?_
                                simp only [Act.put, List.getElem_toArray, List.getElem_cons_succ, List.getElem_cons_zero, List.setIfInBounds_toArray, List.set_cons_succ, List.set_cons_zero]
                                refine wpAnyH_ready (rs := [20]) (by kernel_rfl) (by simp) ?_
                                refine AllReadyH.cons rfl (fun K hK => ?_) AllReadyH.nil
                                go_simp
                                go_wp2_with (go_at_call 58; (with_reducible refine HKP.mono ?_); rintro e u9 ⟨v9, rfl, HL9, G9, ho9⟩)
                                refine hK.out _ _ ?_ (fun hHeld2 => ?_)
                                · first | exact hHeld | exact HK.out _ KA1 | exact HK.out _ KB1 | exact HK.out _ KA2 | exact HK.out _ KB2 | exact HK.out _ K4 | exact HK.out _ (K4.alloc K4.size _) | exact HK.out _ K7 | exact HK.out _ (K7.alloc K7.size _) | exact HK.out _ K7.drew | exact HS9.out _ G9
                                clear hK K hHeld
                                have hHeld := hHeld2
                                clear hHeld2
                                refine wpAnyH_ready (rs := [21]) (by kernel_rfl) (by simp) ?_
                                refine AllReadyH.cons rfl (fun K hK => ?_) AllReadyH.nil
                                go_simp
                                refine hK.out _ _ ?_ (fun hHeld2 => ?_)
                                · first | exact hHeld | exact HK.out _ KA1 | exact HK.out _ KB1 | exact HK.out _ KA2 | exact HK.out _ KB2 | exact HK.out _ K4 | exact HK.out _ (K4.alloc K4.size _) | exact HK.out _ K7 | exact HK.out _ (K7.alloc K7.size _) | exact HK.out _ K7.drew | exact HS9.out _ G9
                                clear hK K hHeld
                                have hHeld := hHeld2
                                clear hHeld2
                                refine wpAnyH_done (by kernel_rfl) ?_ _
                                clear hHeld
                                have GS : Hid (Got WH (rem4 t n ka ⟨pp, px, pz⟩ (m + 1) (rem3 t day y ⟨pp, px, pz⟩ (j + 1) R2)) (keepP qs ⟨a7, c7, cand ⟨pp, px, pz⟩ h⟩)) := Got.step (q := ⟨a7, c7, cand ⟨pp, px, pz⟩ h⟩) HGh.out
                                have L7w := LX.trans (K7.mono LX.size)
                                have L9w : Below w.heap.size w u9 := L7w.grown G9 L7w.size (fun k hk => (HX7.own.lt k hk).1)
                                have p1 := kept K7 (lt_of x1) x1
                                have p2 := kept K7 (lt_of x2) x2
                                have z1 : u9.heap[BW]? = some (.cells #[.slice pa pp.length pc, .int .i64 px, .int .i64 pz] 70) := (G9.block BW (lt_of p1) (fun e => (HOF.out BW e.symm).1 rfl)).trans p1
                                have z2 : u9.heap[BT]? = some (.cells #[.int .i64 t.h.id, .int .i64 t.h.dy, .int .i64 t.h.co, .int .i64 t.h.se, .slice (some ⟨bs, os, none⟩) t.l.length sc] 33) := (G9.block BT (lt_of p2) (fun e => (HOF.out BT e.symm).2 rfl)).trans p2
                                have HO9 : Hid (Off v9 BW BT) := by
                                  intro g hg
                                  rcases ho9 with e | ⟨g', e, hg'⟩
                                  · rw [e] at hg; exact HOF.out g hg
                                  · rw [e] at hg
                                    simp only [Option.some.injEq] at hg
                                    subst hg
                                    have q1 := lt_of p1
                                    have q2 := lt_of p2
                                    exact ⟨by omega, by omega⟩
                                have HL9h : Hid (Lw u9 w.heap.size v9 (keepP qs ⟨a7, c7, cand ⟨pp, px, pz⟩ h⟩)) := HL9
                                clear hnil x1 x2 r0 LX HLX HOF HGh G9 ho9 p1 p2 HX7 K7 K4 HL9 L7w hl4 hl7 HS9
                                go_wp2
                                go_roundw
                                case rel => exact ⟨m + 1, v9, _, rfl, by omega, by go_num, L9w, z1, z2, HL9h, HO9, GS⟩
                                case measure => simp [intOf]; omega
                            · go_simp
                              refine hK.out _ _ ?_ (fun hHeld2 => ?_)
                              · first | exact hHeld | exact HK.out _ KA1 | exact HK.out _ KB1 | exact HK.out _ KA2 | exact HK.out _ KB2 | exact HK.out _ K4 | exact HK.out _ (K4.alloc K4.size _) | exact HK.out _ K7 | exact HK.out _ (K7.alloc K7.size _) | exact HK.out _ K7.drew | exact HS9.out _ G9
                              clear hK K hHeld
                              have hHeld := hHeld2
                              clear hHeld2
                              refine wpAnyH_ready (rs := [1]) (by kernel_rfl) (by simp) ?_
                              refine AllReadyH.cons rfl (fun K hK => ?_) (AllReadyH.nil)
                              go_simp
                              refine hK.out _ _ ?_ (fun hHeld2 => ?_)
                              · first | exact hHeld | exact HK.out _ KA1 | exact HK.out _ KB1 | exact HK.out _ KA2 | exact HK.out _ KB2 | exact HK.out _ K4 | exact HK.out _ (K4.alloc K4.size _) | exact HK.out _ K7 | exact HK.out _ (K7.alloc K7.size _) | exact HK.out _ K7.drew | exact HS9.out _ G9
                              clear hK K hHeld
                              have hHeld := hHeld2
                              clear hHeld2
                              refine wpAnyH_ready (rs := [4]) (by kernel_rfl) (by simp) ?_
                              refine AllReadyH.cons rfl (fun K hK => ?_) (AllReadyH.nil)
                              rw [if_pos (by kernel_rfl)]
                              refine wp_append_rides _ _ 27 rfl w15.heap.size 37 i1 (lgV ⟨0, 0, 0, 0⟩) Try.underlying27 hi1 hj0 hj1 hj2 rfl _ 0 [] rfl (by first | exact OA1 | exact OA2 | exact OB2) (ridesOf pp) pa pp.length pc (by rw [ridesOf_length]) rfl hnil2.out (by first | exact RF.out _ KA1 | exact RF.out _ KA2 | exact RF.out _ KB2) (by omega) (by first | exact KA1.size | exact KA2.size | exact KB2.size) ?_
                              intro v4 u4 O4 G4 hl4
                              have K4 : Below w15.heap.size w15 u4 := by first | exact KA1.grown G4 KA1.size (fun k hk => by cases hk; exact Nat.le_refl _) | exact KA2.grown G4 KA2.size (fun k hk => by cases hk; exact Nat.le_refl _) | exact KB2.grown G4 KB2.size (fun k hk => by cases hk; exact Nat.le_succ _)
                              first | (have m6 : u4.heap[w15.heap.size + 1]? = some (.cells #[.int .i64 tid, .int .i64 n, .int .i64 px, .int .i64 st] 37) := (G4.block _ (lt_of MA2) (fun h => by have h' : some (w15.heap.size + 1) = some w15.heap.size := h; have h2 := Option.some.inj h'; omega)).trans MA2) | (have m6 : u4.heap[w15.heap.size]? = some (.cells #[.int .i64 tid, .int .i64 n, .int .i64 px, .int .i64 st] 37) := (G4.block _ (lt_of MB2) (fun h => by have h' : some w15.heap.size = some (w15.heap.size + 1) := h; have h2 := Option.some.inj h'; omega)).trans MB2) | skip
                              try simp only [Act.put, List.getElem_toArray, List.getElem_cons_succ, List.getElem_cons_zero, List.setIfInBounds_toArray, List.set_cons_succ, List.set_cons_zero]
                              refine hK.out _ _ ?_ (fun hHeld2 => ?_)
                              · first | exact hHeld | exact HK.out _ KA1 | exact HK.out _ KB1 | exact HK.out _ KA2 | exact HK.out _ KB2 | exact HK.out _ K4 | exact HK.out _ (K4.alloc K4.size _) | exact HK.out _ K7 | exact HK.out _ (K7.alloc K7.size _) | exact HK.out _ K7.drew | exact HS9.out _ G9
                              clear hK K hHeld
                              have hHeld := hHeld2
                              clear hHeld2
                              refine wpAnyH_ready (rs := [7]) (by kernel_rfl) (by simp) ?_
                              refine AllReadyH.cons rfl (fun K hK => ?_) (AllReadyH.nil)
                              rw [if_pos (by kernel_rfl)]
                              refine wp_append_at _ _ 27 rfl w15.heap.size 37 i1 (lgV ⟨0, 0, 0, 0⟩) 4 32 Try.underlying27 hi1 hj0 hj1 hj2 rfl (by omega) _ (0 + pp.length) ([] ++ rcells (ridesOf pp)) rfl (by first | exact O4 | exact Pk.own_below O4 (new_below u4 _) (Nat.le_refl _)) _ 1 1 [.int .i64 tid, .int .i64 n, .int .i64 px, .int .i64 st] rfl rfl (four_new (by first | exact m6 | exact heap_new u4 _)) (by simp [Value.oneCell', Value.cells]) (by unfold maxLen; omega) (by omega) (by first | exact K4.size | exact Nat.le_trans K4.size (new_below u4 _).size) ?_
                              intro v7 u7 O7 G7 hl7
                              have K7 : Below w15.heap.size w15 u7 := by first | exact K4.grown G7 K4.size (fun k hk => (O4.lt k hk).1) | exact (K4.alloc K4.size _).grown G7 (Nat.le_trans K4.size (new_below u4 _).size) (fun k hk => (O4.lt k hk).1)
                              rw [Nat.zero_add] at O7
                              obtain ⟨a7, c7, rfl, -⟩ := own_form O7
                              have HX7 := HLX.out.on K7
                              have hhr := HH.out.1
                              have hhz : h.z = zz := HH.out.2.trans HZZ.out
                              have hql : (pp ++ [h]).length = pp.length + 1 := by simp
                              have hrc : [] ++ rcells (ridesOf pp) ++ [.int .i64 tid, .int .i64 n, .int .i64 px, .int .i64 st] = rcells (ridesOf (pp ++ [h])) := by
                                rw [ridesOf_append, rcells_append, List.nil_append]
                                congr 1
                                show _ = rcells [h.r]
                                rw [hhr, HTI.out]
                                rfl
                              rw [hrc] at O7
                              have RA7 : RideAt u7 w15.heap.size a7 c7 (ridesOf (pp ++ [h])) := ride_own O7 (by rw [ridesOf_length, hql])
                              have HKP := specKeep_val qs ⟨a7, c7, cand ⟨pp, px, pz⟩ h⟩ w.heap.size vo u7 hqn HQS.out (by show (pp ++ [h]).length ≤ 1000; omega) (Nat.le_trans LX.size K7.size) HX7 (RA7.lower LX.size)
                              have hv : (⟨a7, c7, cand ⟨pp, px, pz⟩ h⟩ : Pw).v = .agg #[.slice a7 (pp.length + 1) c7, .int .i64 st, .int .i64 zz] := by
                                show Value.agg #[.slice a7 (pp ++ [h]).length c7, .int .i64 h.r.to, .int .i64 h.z] = _
                                rw [hql, hhr, hhz]
                              rw [hv] at HKP
                              clear hv hrc hql hhr hhz RA7 O7
                              have HS9 : Hid (∀ w', u7.grownBy w' vo.ownBlock → w'.cell? ⟨BW, 0, none⟩ = some (.slice pa pp.length pc) ∧ w'.cell? ⟨BR, 0, none⟩ = some (.int .i64 tid) ∧ w'.cell? ⟨BR, 1, none⟩ = some (.int .i64 n) ∧ w'.cell? ⟨BR, 2, none⟩ = some (.int .i64 px) ∧ w'.cell? ⟨BR, 3, none⟩ = some (.int .i64 st) ∧ w'.cell? ⟨BT, 4, none⟩ = some (.slice (some ⟨bs, os, none⟩) t.l.length sc) ∧ w'.cell? ⟨bs, os + m * 3 + 1, none⟩ = some (.int .i64 ar)) := by
                                intro w' G
                                obtain ⟨q0, q1, q2, q3, q4, q5, q6⟩ := HK.out _ K7
                                have nb : some BW ≠ vo.ownBlock := fun e => (HOF.out BW e.symm).1 rfl
                                have nt : some BT ≠ vo.ownBlock := fun e => (HOF.out BT e.symm).2 rfl
                                have nr : some BR ≠ vo.ownBlock := Pk.own_ne HX7.own (kept K7 (lt_of r0) r0) (by decide)
                                have ns : some bs ≠ vo.ownBlock := fun e => by
                                  have := (HX7.own.lt bs e.symm).1
                                  omega
                                have hb := G.block BW (lt_of (kept K7 (lt_of x1) x1)) nb
                                have ht := G.block BT (lt_of (kept K7 (lt_of x2) x2)) nt
                                have hr := G.block BR (lt_of (kept K7 (lt_of r0) r0)) nr
                                have hs := G.block bs (by have := LX.size; have := K7.size; omega) ns
                                exact ⟨(World.cell?_of_block (a := ⟨BW, 0, none⟩) hb).trans q0, (World.cell?_of_block (a := ⟨BR, 0, none⟩) hr).trans q1, (World.cell?_of_block (a := ⟨BR, 1, none⟩) hr).trans q2, (World.cell?_of_block (a := ⟨BR, 2, none⟩) hr).trans q3, (World.cell?_of_block (a := ⟨BR, 3, none⟩) hr).trans q4, (World.cell?_of_block (a := ⟨BT, 4, none⟩) ht).trans q5, (World.cell?_of_block (a := ⟨bs, os + m * 3 + 1, none⟩) hs).trans q6⟩
                              try simp only [Act.put, List.getElem_toArray, List.getElem_cons_succ, List.getElem_cons_zero, List.setIfInBounds_toArray, List.set_cons_succ, List.set_cons_zero]
                              refine hK.out _ _ ?_ (fun hHeld2 => ?_)
                              · first | exact hHeld | exact HK.out _ KA1 | exact HK.out _ KB1 | exact HK.out _ KA2 | exact HK.out _ KB2 | exact HK.out _ K4 | exact HK.out _ (K4.alloc K4.size _) | exact HK.out _ K7 | exact HK.out _ (K7.alloc K7.size _) | exact HK.out _ K7.drew | exact HS9.out _ G9
                              clear hK K hHeld
                              have hHeld := hHeld2
                              clear hHeld2
                              refine wpAnyH_take (i := 19) (v := .agg #[.slice a7 (pp.length + 1) c7, .int .i64 st, .int .i64 zz]) rfl (by kernel_rfl) (by kernel_rfl) (by kernel_rfl) (fun _ _ _ h => h) (Or.inl ⟨by kernel_rfl, fun w hSw => by first | (go_simp; done) | (dsimp only at hSw; obtain ⟨hS0, hS1, hS2, hS3, hS4, hS5, hS6⟩ := hSw; go_simp; done) | rfl⟩) (by assumption) ?_
                              simp only [Act.put, List.getElem_toArray, List.getElem_cons_succ, List.getElem_cons_zero, List.setIfInBounds_toArray, List.set_cons_succ, List.set_cons_zero]
                              refine wpAnyH_ready (rs := [20]) (by kernel_rfl) (by simp) ?_
                              refine AllReadyH.cons rfl (fun K hK => ?_) AllReadyH.nil
                              go_simp
                              go_wp2_with (go_at_call 58; (with_reducible refine HKP.mono ?_); rintro e u9 ⟨v9, rfl, HL9, G9, ho9⟩)
                              refine hK.out _ _ ?_ (fun hHeld2 => ?_)
                              · first | exact hHeld | exact HK.out _ KA1 | exact HK.out _ KB1 | exact HK.out _ KA2 | exact HK.out _ KB2 | exact HK.out _ K4 | exact HK.out _ (K4.alloc K4.size _) | exact HK.out _ K7 | exact HK.out _ (K7.alloc K7.size _) | exact HK.out _ K7.drew | exact HS9.out _ G9
                              clear hK K hHeld
                              have hHeld := hHeld2
                              clear hHeld2
                              refine wpAnyH_ready (rs := [21]) (by kernel_rfl) (by simp) ?_
                              refine AllReadyH.cons rfl (fun K hK => ?_) AllReadyH.nil
                              go_simp
                              refine hK.out _ _ ?_ (fun hHeld2 => ?_)
                              · first | exact hHeld | exact HK.out _ KA1 | exact HK.out _ KB1 | exact HK.out _ KA2 | exact HK.out _ KB2 | exact HK.out _ K4 | exact HK.out _ (K4.alloc K4.size _) | exact HK.out _ K7 | exact HK.out _ (K7.alloc K7.size _) | exact HK.out _ K7.drew | exact HS9.out _ G9
                              clear hK K hHeld
                              have hHeld := hHeld2
                              clear hHeld2
                              refine wpAnyH_done (by kernel_rfl) ?_ _
                              clear hHeld
                              have GS : Hid (Got WH (rem4 t n ka ⟨pp, px, pz⟩ (m + 1) (rem3 t day y ⟨pp, px, pz⟩ (j + 1) R2)) (keepP qs ⟨a7, c7, cand ⟨pp, px, pz⟩ h⟩)) := Got.step (q := ⟨a7, c7, cand ⟨pp, px, pz⟩ h⟩) HGh.out
                              have L7w := LX.trans (K7.mono LX.size)
                              have L9w : Below w.heap.size w u9 := L7w.grown G9 L7w.size (fun k hk => (HX7.own.lt k hk).1)
                              have p1 := kept K7 (lt_of x1) x1
                              have p2 := kept K7 (lt_of x2) x2
                              have z1 : u9.heap[BW]? = some (.cells #[.slice pa pp.length pc, .int .i64 px, .int .i64 pz] 70) := (G9.block BW (lt_of p1) (fun e => (HOF.out BW e.symm).1 rfl)).trans p1
                              have z2 : u9.heap[BT]? = some (.cells #[.int .i64 t.h.id, .int .i64 t.h.dy, .int .i64 t.h.co, .int .i64 t.h.se, .slice (some ⟨bs, os, none⟩) t.l.length sc] 33) := (G9.block BT (lt_of p2) (fun e => (HOF.out BT e.symm).2 rfl)).trans p2
                              have HO9 : Hid (Off v9 BW BT) := by
                                intro g hg
                                rcases ho9 with e | ⟨g', e, hg'⟩
                                · rw [e] at hg; exact HOF.out g hg
                                · rw [e] at hg
                                  simp only [Option.some.injEq] at hg
                                  subst hg
                                  have q1 := lt_of p1
                                  have q2 := lt_of p2
                                  exact ⟨by omega, by omega⟩
                              have HL9h : Hid (Lw u9 w.heap.size v9 (keepP qs ⟨a7, c7, cand ⟨pp, px, pz⟩ h⟩)) := HL9
                              clear hnil x1 x2 r0 LX HLX HOF HGh G9 ho9 p1 p2 HX7 K7 K4 HL9 L7w hl4 hl7 HS9
                              go_wp2
                              go_roundw
                              case rel => exact ⟨m + 1, v9, _, rfl, by omega, by go_num, L9w, z1, z2, HL9h, HO9, GS⟩
                              case measure => simp [intOf]; omega
                          · obtain rfl : m = t.l.length := by omega
                            have htm : decide ((t.l.length : Int) < (t.l.length : Int)) = false := decide_eq_false (by omega)
                            have HGE : Hid (Got WH (rem3 t day y ⟨pp, px, pz⟩ (j + 1) R2) qs) := by
                              have h := HGo.out
                              rw [rem4_end] at h
                              exact h
                            go_wp2
                            go_roundw
                            case rel => exact ⟨j + 1, (n : Int) + 1, _, qs, rfl, by omega, by omega, by omega, fun h => by omega, by go_num, LW, b1, b2, HL, HOF, HGE⟩
                            case measure => simp [intOf]; omega
                · obtain rfl : j = 4 := by omega
                  have ht1 : decide (d ≤ day + 1) = false := decide_eq_false (by omega)
                  have HGE : Hid (Got WH (rem2 ts day y ⟨pp, px, pz⟩ (k2 + 1) R1) qs) := by
                    have h := HGo.out
                    rw [rem3_end] at h
                    rw [HR2.out]
                    exact h
                  have hofx : ∀ g, vo.ownBlock = some g → g ≠ BW := fun g hg => (HOF.out g hg).1
                  clear hixb n2 m1 m2
                  go_wp2
                  go_roundw
                  case rel => exact ⟨k2 + 1, _, qs, rfl, by omega, by go_num, LW6, n1, HL, hofx, HGE⟩
                  case measure => simp [intOf]; omega
          · obtain rfl : k2 = ts.length := by omega
            have hkt2 : decide ((ts.length : Int) < (ts.length : Int)) = false := decide_eq_false (by omega)
            have HG2 : Hid (Got WH (rem1 ts day first ps (k + 1)) qs) := by
              have h := HGo.out
              rw [rem2_end] at h
              rw [hR1]
              exact h
            clear hnil RA hl6 hz0 hz1 n2
            go_wp2
            go_roundw
            case rel => exact ⟨k + 1, _, qs, rfl, by omega, by go_num, LW2, HL, HG2⟩
            case measure => simp [intOf]; omega
    · obtain rfl : k = ps.length := by omega
      have hkt : decide ((ps.length : Int) < (ps.length : Int)) = false := decide_eq_false (by omega)
      have HE : Hid (qs.map (·.o) = keepAll [] WH) := by
        obtain ⟨C, h1, h2⟩ := HGo.out
        rw [rem1_end, List.append_nil] at h1
        show _ = _
        rw [h1]; exact h2
      go_wp2
      go_ret
      exact ⟨_, qs, rfl, HL.out, HE.out, L⟩

end Rd
end Go.Proofs.Ytfoccmhmgdengaa

/- Contracts of LinesOk, of its model. -/
namespace Go.Proofs.Ytfoccmhmgdengaa
namespace Tn
open Go.ChangeShapes Go.WideShapes Go.ChangeAt Go.RowKit
open Pk (new_below join_below cell_at heap_new frozen_at lt_of kept heap_old)
set_option linter.unusedSimpArgs false
set_option linter.unusedVariables false

set_option maxHeartbeats 8000000 in
theorem specLines_val (a : Option Addr) (ts : List Tr) (cap : Nat) (w : World) (hn : ts.length ≤ maxLen) (hs : ∀ i (h : i < ts.length), ts[i].l.length ≤ maxLen) (I : Trains w a ts) :
    Calls Try.prog 13 #[.slice a ts.length cap] w fun e w' => e = .returned (.bool (linesB ts)) ∧ Below w.heap.size w w' := by
  have HH : Hid (∀ i (h : i < ts.length), ts[i].l.length ≤ maxLen) := hs
  unfold maxLen at hn
  clear hs
  have HO : Hid (linesB ts = (linesFrom ts 0 && decide ((ts.length : Int) ≤ 40))) := by
    show _ = _
    unfold linesB
    by_cases h : ts.length ≤ 40
    · rw [decide_eq_true h, decide_eq_true (by omega)]
    · rw [decide_eq_false h, decide_eq_false (by omega)]
  generalize linesB ts = R at *
  go_enter Try.func13, Try.ntmps13
  go_wp2
  go_loopw [3] (fun i wr => ∃ k : Nat, k ≤ ts.length ∧ i = .int .i64 k ∧ Below w.heap.size w wr ∧ Hid (linesFrom ts 0 = linesFrom ts k)) (fun i _ => ts.length - (intOf i).toNat)
  case atStart => exact ⟨0, by omega, rfl, Below.refl _ _, rfl⟩
  case round =>
    obtain ⟨k, hk, rfl, L, H⟩ := hrel
    by_cases hkn : k < ts.length
    · obtain ⟨b, o, bi, oi, ci, rfl, hlt, c0, c1, c2, c3, c4, S⟩ := (I.on L).at k hkn
      have HS : Hid (_) := linesFrom_step ts k hkn
      have HN : Hid (okB ts[k].h ts[k].l = false → lineB ts k = false) := lineB_no ts k hkn
      have H0 : Hid (k = 0 → lineB ts k = okB ts[k].h ts[k].l) := by intro h; subst h; exact lineB_0 ts hkn
      have HP : Hid (∀ j : Nat, k = j + 1 → ∃ hj : j < ts.length, lineB ts k = (okB ts[k].h ts[k].l && decide (ts[j].h.id < ts[k].h.id))) := fun j e => ⟨by omega, lineB_pos ts k j hkn e⟩
      have HK : Hid (∀ w, Stops w (some ⟨bi, oi, none⟩) ts[k].l → _) := fun w h => specOk_val ts[k].h (some ⟨bi, oi, none⟩) ts[k].l ci w (HH.out k hkn) h
      generalize okB ts[k].h ts[k].l = bb at *
      generalize lineB ts k = lb at *
      generalize ts[k].l = q at *
      generalize ts[k].h = p at *
      have SB := S
      have L6 := L
      cases bb
      · have HE : Hid (linesFrom ts 0 = false) := by show _ = _; rw [H.out, HS.out, HN.out rfl]; rfl
        go_wp2
        refine wp_region_any (by kernel_rfl) ?_
        try (change wpAny _ _ _ _ _ _ _ (World.drew _))
        refine wpAny_take (i := 0) (v := .slice (some ⟨b, o, none⟩) ts.length cap) rfl (by kernel_rfl) (by kernel_rfl) (by kernel_rfl) (fun _ _ _ h => h) (Or.inl ⟨by kernel_rfl, fun w => by first | (go_simp; done) | rfl⟩) ?_
        simp only [Act.put, List.getElem_toArray, List.getElem_cons_succ, List.getElem_cons_zero, List.setIfInBounds_toArray, List.set_cons_succ, List.set_cons_zero]
        refine wpAny_take (i := 1) (v := .int .i64 k) rfl (by kernel_rfl) (by kernel_rfl) (by kernel_rfl) (fun _ _ _ h => h) (Or.inl ⟨by kernel_rfl, fun w => by first | (go_simp; done) | rfl⟩) ?_
        simp only [Act.put, List.getElem_toArray, List.getElem_cons_succ, List.getElem_cons_zero, List.setIfInBounds_toArray, List.set_cons_succ, List.set_cons_zero]
        refine wpAny_ready (rs := [2]) (by kernel_rfl) (by simp) ?_
        refine AllReady.cons rfl (fun K hK => ?_) AllReady.nil
        go_simp
        refine hK _ _ ?_
        clear hK K
        refine wpAny_ready (rs := [3]) (by kernel_rfl) (by simp) ?_
        refine AllReady.cons rfl (fun K hK => ?_) AllReady.nil
        go_simp
        refine hK _ _ ?_
        clear hK K
        refine wpAny_ready (rs := [4]) (by kernel_rfl) (by simp) ?_
        refine AllReady.cons rfl (fun K hK => ?_) AllReady.nil
        go_simp
        go_wp2_with (go_at_call 40; refine (HK.out _ ?_).mono ?_; (first | exact SB | exact SB.on ((Below.refl _ _).drew)); rintro e w1 ⟨rfl, L1⟩; have K1 : Below wr.heap.size wr w1 := (by first | exact L1 | exact ((Below.refl _ _).drew).trans L1))
        refine wpAny_take (i := 5) (v := .bool true) rfl (by kernel_rfl) (by kernel_rfl) (by kernel_rfl) (fun _ _ _ h => h) (Or.inl ⟨by kernel_rfl, fun w => by first | (go_simp; done) | rfl⟩) ?_
        simp only [Act.put, List.getElem_toArray, List.getElem_cons_succ, List.getElem_cons_zero, List.setIfInBounds_toArray, List.set_cons_succ, List.set_cons_zero]
        refine wpAny_take (i := 6) (v := .bool true) rfl (by kernel_rfl) (by kernel_rfl) (by kernel_rfl) (fun _ _ _ h => h) (Or.inl ⟨by kernel_rfl, fun w => by first | (go_simp; done) | rfl⟩) ?_
        simp only [Act.put, List.getElem_toArray, List.getElem_cons_succ, List.getElem_cons_zero, List.setIfInBounds_toArray, List.set_cons_succ, List.set_cons_zero]
        refine wpAny_take (i := 7) (v := undef) rfl (by kernel_rfl) (by kernel_rfl) (by kernel_rfl) (fun _ _ _ h => h) (Or.inr ⟨by kernel_rfl, rfl⟩) ?_
        simp only [Act.put, List.getElem_toArray, List.getElem_cons_succ, List.getElem_cons_zero, List.setIfInBounds_toArray, List.set_cons_succ, List.set_cons_zero]
        refine wpAny_take (i := 8) (v := undef) rfl (by kernel_rfl) (by kernel_rfl) (by kernel_rfl) (fun _ _ _ h => h) (Or.inr ⟨by kernel_rfl, rfl⟩) ?_
        simp only [Act.put, List.getElem_toArray, List.getElem_cons_succ, List.getElem_cons_zero, List.setIfInBounds_toArray, List.set_cons_succ, List.set_cons_zero]
        refine wpAny_take (i := 9) (v := undef) rfl (by kernel_rfl) (by kernel_rfl) (by kernel_rfl) (fun _ _ _ h => h) (Or.inr ⟨by kernel_rfl, rfl⟩) ?_
        simp only [Act.put, List.getElem_toArray, List.getElem_cons_succ, List.getElem_cons_zero, List.setIfInBounds_toArray, List.set_cons_succ, List.set_cons_zero]
        refine wpAny_take (i := 10) (v := undef) rfl (by kernel_rfl) (by kernel_rfl) (by kernel_rfl) (fun _ _ _ h => h) (Or.inr ⟨by kernel_rfl, rfl⟩) ?_
        simp only [Act.put, List.getElem_toArray, List.getElem_cons_succ, List.getElem_cons_zero, List.setIfInBounds_toArray, List.set_cons_succ, List.set_cons_zero]
        refine wpAny_take (i := 11) (v := undef) rfl (by kernel_rfl) (by kernel_rfl) (by kernel_rfl) (fun _ _ _ h => h) (Or.inr ⟨by kernel_rfl, rfl⟩) ?_
        simp only [Act.put, List.getElem_toArray, List.getElem_cons_succ, List.getElem_cons_zero, List.setIfInBounds_toArray, List.set_cons_succ, List.set_cons_zero]
        refine wpAny_take (i := 12) (v := undef) rfl (by kernel_rfl) (by kernel_rfl) (by kernel_rfl) (fun _ _ _ h => h) (Or.inr ⟨by kernel_rfl, rfl⟩) ?_
        simp only [Act.put, List.getElem_toArray, List.getElem_cons_succ, List.getElem_cons_zero, List.setIfInBounds_toArray, List.set_cons_succ, List.set_cons_zero]
        refine wpAny_take (i := 13) (v := undef) rfl (by kernel_rfl) (by kernel_rfl) (by kernel_rfl) (fun _ _ _ h => h) (Or.inr ⟨by kernel_rfl, rfl⟩) ?_
        simp only [Act.put, List.getElem_toArray, List.getElem_cons_succ, List.getElem_cons_zero, List.setIfInBounds_toArray, List.set_cons_succ, List.set_cons_zero]
        refine wpAny_take (i := 14) (v := undef) rfl (by kernel_rfl) (by kernel_rfl) (by kernel_rfl) (fun _ _ _ h => h) (Or.inr ⟨by kernel_rfl, rfl⟩) ?_
        simp only [Act.put, List.getElem_toArray, List.getElem_cons_succ, List.getElem_cons_zero, List.setIfInBounds_toArray, List.set_cons_succ, List.set_cons_zero]
        refine wpAny_take (i := 15) (v := undef) rfl (by kernel_rfl) (by kernel_rfl) (by kernel_rfl) (fun _ _ _ h => h) (Or.inr ⟨by kernel_rfl, rfl⟩) ?_
        simp only [Act.put, List.getElem_toArray, List.getElem_cons_succ, List.getElem_cons_zero, List.setIfInBounds_toArray, List.set_cons_succ, List.set_cons_zero]
        refine wpAny_take (i := 16) (v := undef) rfl (by kernel_rfl) (by kernel_rfl) (by kernel_rfl) (fun _ _ _ h => h) (Or.inr ⟨by kernel_rfl, rfl⟩) ?_
        simp only [Act.put, List.getElem_toArray, List.getElem_cons_succ, List.getElem_cons_zero, List.setIfInBounds_toArray, List.set_cons_succ, List.set_cons_zero]
        refine wpAny_take (i := 17) (v := undef) rfl (by kernel_rfl) (by kernel_rfl) (by kernel_rfl) (fun _ _ _ h => h) (Or.inr ⟨by kernel_rfl, rfl⟩) ?_
        simp only [Act.put, List.getElem_toArray, List.getElem_cons_succ, List.getElem_cons_zero, List.setIfInBounds_toArray, List.set_cons_succ, List.set_cons_zero]
        refine wpAny_take (i := 18) (v := undef) rfl (by kernel_rfl) (by kernel_rfl) (by kernel_rfl) (fun _ _ _ h => h) (Or.inr ⟨by kernel_rfl, rfl⟩) ?_
        simp only [Act.put, List.getElem_toArray, List.getElem_cons_succ, List.getElem_cons_zero, List.setIfInBounds_toArray, List.set_cons_succ, List.set_cons_zero]
        refine wpAny_take (i := 19) (v := undef) rfl (by kernel_rfl) (by kernel_rfl) (by kernel_rfl) (fun _ _ _ h => h) (Or.inr ⟨by kernel_rfl, rfl⟩) ?_
        simp only [Act.put, List.getElem_toArray, List.getElem_cons_succ, List.getElem_cons_zero, List.setIfInBounds_toArray, List.set_cons_succ, List.set_cons_zero]
        refine wpAny_take (i := 20) (v := undef) rfl (by kernel_rfl) (by kernel_rfl) (by kernel_rfl) (fun _ _ _ h => h) (Or.inr ⟨by kernel_rfl, rfl⟩) ?_
        simp only [Act.put, List.getElem_toArray, List.getElem_cons_succ, List.getElem_cons_zero, List.setIfInBounds_toArray, List.set_cons_succ, List.set_cons_zero]
        refine wpAny_take (i := 21) (v := undef) rfl (by kernel_rfl) (by kernel_rfl) (by kernel_rfl) (fun _ _ _ h => h) (Or.inr ⟨by kernel_rfl, rfl⟩) ?_
        simp only [Act.put, List.getElem_toArray, List.getElem_cons_succ, List.getElem_cons_zero, List.setIfInBounds_toArray, List.set_cons_succ, List.set_cons_zero]
        refine wpAny_take (i := 22) (v := undef) rfl (by kernel_rfl) (by kernel_rfl) (by kernel_rfl) (fun _ _ _ h => h) (Or.inr ⟨by kernel_rfl, rfl⟩) ?_
        simp only [Act.put, List.getElem_toArray, List.getElem_cons_succ, List.getElem_cons_zero, List.setIfInBounds_toArray, List.set_cons_succ, List.set_cons_zero]
        refine wpAny_take (i := 23) (v := .bool true) rfl (by kernel_rfl) (by kernel_rfl) (by kernel_rfl) (fun _ _ _ h => h) (Or.inl ⟨by kernel_rfl, fun w => by first | (go_simp; done) | rfl⟩) ?_
        simp only [Act.put, List.getElem_toArray, List.getElem_cons_succ, List.getElem_cons_zero, List.setIfInBounds_toArray, List.set_cons_succ, List.set_cons_zero]
        refine wpAny_done (by kernel_rfl) ?_ _
        all_goals
          go_wp2
          go_ret
          exact ⟨by rw [HO.out, HE.out] <;> rfl, join_below L6 K1⟩
      by_cases h0 : k = 0
      · have HE : Hid (linesFrom ts 0 = linesFrom ts (k + 1)) := by show _ = _; rw [H.out, HS.out, H0.out h0]; rfl
        have hd1 : decide ((0 : Int) < (k : Int)) = false := decide_eq_false (by omega)
        have hd2 : decide (0 < k) = false := decide_eq_false (by omega)
        clear HP H0 HN HS H
        subst h0
        simp only [Nat.zero_mul, Nat.add_zero] at c0 c1 c2 c3 c4
        go_wp2
        refine wp_region_any (by kernel_rfl) ?_
        try (change wpAny _ _ _ _ _ _ _ (World.drew _))
        refine wpAny_take (i := 0) (v := .slice (some ⟨b, o, none⟩) ts.length cap) rfl (by kernel_rfl) (by kernel_rfl) (by kernel_rfl) (fun _ _ _ h => h) (Or.inl ⟨by kernel_rfl, fun w => by first | (go_simp; done) | rfl⟩) ?_
        simp only [Act.put, List.getElem_toArray, List.getElem_cons_succ, List.getElem_cons_zero, List.setIfInBounds_toArray, List.set_cons_succ, List.set_cons_zero]
        refine wpAny_take (i := 1) (v := .int .i64 0) rfl (by kernel_rfl) (by kernel_rfl) (by kernel_rfl) (fun _ _ _ h => h) (Or.inl ⟨by kernel_rfl, fun w => by first | (go_simp; done) | rfl⟩) ?_
        simp only [Act.put, List.getElem_toArray, List.getElem_cons_succ, List.getElem_cons_zero, List.setIfInBounds_toArray, List.set_cons_succ, List.set_cons_zero]
        refine wpAny_ready (rs := [2]) (by kernel_rfl) (by simp) ?_
        refine AllReady.cons rfl (fun K hK => ?_) AllReady.nil
        go_simp
        refine hK _ _ ?_
        clear hK K
        refine wpAny_ready (rs := [3]) (by kernel_rfl) (by simp) ?_
        refine AllReady.cons rfl (fun K hK => ?_) AllReady.nil
        go_simp
        refine hK _ _ ?_
        clear hK K
        refine wpAny_ready (rs := [4]) (by kernel_rfl) (by simp) ?_
        refine AllReady.cons rfl (fun K hK => ?_) AllReady.nil
        go_simp
        go_wp2_with (go_at_call 40; refine (HK.out _ ?_).mono ?_; (first | exact SB | exact SB.on ((Below.refl _ _).drew)); rintro e w1 ⟨rfl, L1⟩; have K1 : Below wr.heap.size wr w1 := (by first | exact L1 | exact ((Below.refl _ _).drew).trans L1))
        refine wpAny_take (i := 5) (v := .bool false) rfl (by kernel_rfl) (by kernel_rfl) (by kernel_rfl) (fun _ _ _ h => h) (Or.inl ⟨by kernel_rfl, fun w => by first | (go_simp; done) | rfl⟩) ?_
        simp only [Act.put, List.getElem_toArray, List.getElem_cons_succ, List.getElem_cons_zero, List.setIfInBounds_toArray, List.set_cons_succ, List.set_cons_zero]
        refine wpAny_take (i := 6) (v := .bool false) rfl (by kernel_rfl) (by kernel_rfl) (by kernel_rfl) (fun _ _ _ h => h) (Or.inl ⟨by kernel_rfl, fun w => by first | (go_simp; done) | rfl⟩) ?_
        simp only [Act.put, List.getElem_toArray, List.getElem_cons_succ, List.getElem_cons_zero, List.setIfInBounds_toArray, List.set_cons_succ, List.set_cons_zero]
        refine wpAny_take (i := 7) (v := .int .i64 0) rfl (by kernel_rfl) (by kernel_rfl) (by kernel_rfl) (fun _ _ _ h => h) (Or.inl ⟨by kernel_rfl, fun w => by first | (go_simp; done) | rfl⟩) ?_
        simp only [Act.put, List.getElem_toArray, List.getElem_cons_succ, List.getElem_cons_zero, List.setIfInBounds_toArray, List.set_cons_succ, List.set_cons_zero]
        refine wpAny_take (i := 8) (v := .bool false) rfl (by kernel_rfl) (by kernel_rfl) (by kernel_rfl) (fun _ _ _ h => h) (Or.inl ⟨by kernel_rfl, fun w => by first | (go_simp; done) | rfl⟩) ?_
        simp only [Act.put, List.getElem_toArray, List.getElem_cons_succ, List.getElem_cons_zero, List.setIfInBounds_toArray, List.set_cons_succ, List.set_cons_zero]
        refine wpAny_take (i := 9) (v := .bool false) rfl (by kernel_rfl) (by kernel_rfl) (by kernel_rfl) (fun _ _ _ h => h) (Or.inl ⟨by kernel_rfl, fun w => by first | (go_simp; done) | rfl⟩) ?_
        simp only [Act.put, List.getElem_toArray, List.getElem_cons_succ, List.getElem_cons_zero, List.setIfInBounds_toArray, List.set_cons_succ, List.set_cons_zero]
        refine wpAny_take (i := 10) (v := undef) rfl (by kernel_rfl) (by kernel_rfl) (by kernel_rfl) (fun _ _ _ h => h) (Or.inr ⟨by kernel_rfl, rfl⟩) ?_
        simp only [Act.put, List.getElem_toArray, List.getElem_cons_succ, List.getElem_cons_zero, List.setIfInBounds_toArray, List.set_cons_succ, List.set_cons_zero]
        refine wpAny_take (i := 11) (v := undef) rfl (by kernel_rfl) (by kernel_rfl) (by kernel_rfl) (fun _ _ _ h => h) (Or.inr ⟨by kernel_rfl, rfl⟩) ?_
        simp only [Act.put, List.getElem_toArray, List.getElem_cons_succ, List.getElem_cons_zero, List.setIfInBounds_toArray, List.set_cons_succ, List.set_cons_zero]
        refine wpAny_take (i := 12) (v := undef) rfl (by kernel_rfl) (by kernel_rfl) (by kernel_rfl) (fun _ _ _ h => h) (Or.inr ⟨by kernel_rfl, rfl⟩) ?_
        simp only [Act.put, List.getElem_toArray, List.getElem_cons_succ, List.getElem_cons_zero, List.setIfInBounds_toArray, List.set_cons_succ, List.set_cons_zero]
        refine wpAny_take (i := 13) (v := undef) rfl (by kernel_rfl) (by kernel_rfl) (by kernel_rfl) (fun _ _ _ h => h) (Or.inr ⟨by kernel_rfl, rfl⟩) ?_
        simp only [Act.put, List.getElem_toArray, List.getElem_cons_succ, List.getElem_cons_zero, List.setIfInBounds_toArray, List.set_cons_succ, List.set_cons_zero]
        refine wpAny_take (i := 14) (v := undef) rfl (by kernel_rfl) (by kernel_rfl) (by kernel_rfl) (fun _ _ _ h => h) (Or.inr ⟨by kernel_rfl, rfl⟩) ?_
        simp only [Act.put, List.getElem_toArray, List.getElem_cons_succ, List.getElem_cons_zero, List.setIfInBounds_toArray, List.set_cons_succ, List.set_cons_zero]
        refine wpAny_take (i := 15) (v := undef) rfl (by kernel_rfl) (by kernel_rfl) (by kernel_rfl) (fun _ _ _ h => h) (Or.inr ⟨by kernel_rfl, rfl⟩) ?_
        simp only [Act.put, List.getElem_toArray, List.getElem_cons_succ, List.getElem_cons_zero, List.setIfInBounds_toArray, List.set_cons_succ, List.set_cons_zero]
        refine wpAny_take (i := 16) (v := undef) rfl (by kernel_rfl) (by kernel_rfl) (by kernel_rfl) (fun _ _ _ h => h) (Or.inr ⟨by kernel_rfl, rfl⟩) ?_
        simp only [Act.put, List.getElem_toArray, List.getElem_cons_succ, List.getElem_cons_zero, List.setIfInBounds_toArray, List.set_cons_succ, List.set_cons_zero]
        refine wpAny_take (i := 17) (v := undef) rfl (by kernel_rfl) (by kernel_rfl) (by kernel_rfl) (fun _ _ _ h => h) (Or.inr ⟨by kernel_rfl, rfl⟩) ?_
        simp only [Act.put, List.getElem_toArray, List.getElem_cons_succ, List.getElem_cons_zero, List.setIfInBounds_toArray, List.set_cons_succ, List.set_cons_zero]
        refine wpAny_take (i := 18) (v := undef) rfl (by kernel_rfl) (by kernel_rfl) (by kernel_rfl) (fun _ _ _ h => h) (Or.inr ⟨by kernel_rfl, rfl⟩) ?_
        simp only [Act.put, List.getElem_toArray, List.getElem_cons_succ, List.getElem_cons_zero, List.setIfInBounds_toArray, List.set_cons_succ, List.set_cons_zero]
        refine wpAny_take (i := 19) (v := undef) rfl (by kernel_rfl) (by kernel_rfl) (by kernel_rfl) (fun _ _ _ h => h) (Or.inr ⟨by kernel_rfl, rfl⟩) ?_
        simp only [Act.put, List.getElem_toArray, List.getElem_cons_succ, List.getElem_cons_zero, List.setIfInBounds_toArray, List.set_cons_succ, List.set_cons_zero]
        refine wpAny_take (i := 20) (v := undef) rfl (by kernel_rfl) (by kernel_rfl) (by kernel_rfl) (fun _ _ _ h => h) (Or.inr ⟨by kernel_rfl, rfl⟩) ?_
        simp only [Act.put, List.getElem_toArray, List.getElem_cons_succ, List.getElem_cons_zero, List.setIfInBounds_toArray, List.set_cons_succ, List.set_cons_zero]
        refine wpAny_take (i := 21) (v := undef) rfl (by kernel_rfl) (by kernel_rfl) (by kernel_rfl) (fun _ _ _ h => h) (Or.inr ⟨by kernel_rfl, rfl⟩) ?_
        simp only [Act.put, List.getElem_toArray, List.getElem_cons_succ, List.getElem_cons_zero, List.setIfInBounds_toArray, List.set_cons_succ, List.set_cons_zero]
        refine wpAny_take (i := 22) (v := .bool false) rfl (by kernel_rfl) (by kernel_rfl) (by kernel_rfl) (fun _ _ _ h => h) (Or.inl ⟨by kernel_rfl, fun w => by first | (go_simp; done) | rfl⟩) ?_
        simp only [Act.put, List.getElem_toArray, List.getElem_cons_succ, List.getElem_cons_zero, List.setIfInBounds_toArray, List.set_cons_succ, List.set_cons_zero]
        refine wpAny_take (i := 23) (v := .bool false) rfl (by kernel_rfl) (by kernel_rfl) (by kernel_rfl) (fun _ _ _ h => h) (Or.inl ⟨by kernel_rfl, fun w => by first | (go_simp; done) | rfl⟩) ?_
        simp only [Act.put, List.getElem_toArray, List.getElem_cons_succ, List.getElem_cons_zero, List.setIfInBounds_toArray, List.set_cons_succ, List.set_cons_zero]
        refine wpAny_done (by kernel_rfl) ?_ _
        all_goals
          go_wp2
          go_roundw
          case rel => exact ⟨1, by omega, rfl, join_below L6 K1, HE⟩
          case measure => simp [intOf]; omega
      · obtain ⟨j, hj⟩ : ∃ j, k = j + 1 := ⟨k - 1, by omega⟩
        obtain ⟨hjl, hgap⟩ := HP.out j hj
        obtain ⟨b', o', bj, oj, cj, he, hbj, q0, -⟩ := (I.on L6).at j hjl
        simp only [Option.some.injEq, Addr.mk.injEq, and_true] at he
        obtain ⟨rfl, rfl⟩ := he
        have hd1 : decide ((0 : Int) < (k : Int)) = true := decide_eq_true (by omega)
        have hd2 : decide (0 < k) = true := decide_eq_true (by omega)
        have hji : (k : Int) - 1 = (j : Int) := by omega
        have hjw : IntKind.i64.wrap (j : Int) = (j : Int) := by rw [IntKind.wrap_i64]; omega
        generalize ts[j].h.id = u at *
        by_cases hu : u < p.id
        · have hu2 : decide (p.id ≤ u) = false := decide_eq_false (by omega)
          rw [decide_eq_true hu] at hgap
          have HE : Hid (linesFrom ts 0 = linesFrom ts (k + 1)) := by show _ = _; rw [H.out, HS.out, hgap]; rfl
          have HJ : Hid (_) := hj
          clear hgap hj h0 H HS HP H0 HN
          go_wp2
          refine wp_region_any (by kernel_rfl) ?_
          try (change wpAny _ _ _ _ _ _ _ (World.drew _))
          refine wpAny_take (i := 0) (v := .slice (some ⟨b, o, none⟩) ts.length cap) rfl (by kernel_rfl) (by kernel_rfl) (by kernel_rfl) (fun _ _ _ h => h) (Or.inl ⟨by kernel_rfl, fun w => by first | (go_simp; done) | rfl⟩) ?_
          simp only [Act.put, List.getElem_toArray, List.getElem_cons_succ, List.getElem_cons_zero, List.setIfInBounds_toArray, List.set_cons_succ, List.set_cons_zero]
          refine wpAny_take (i := 1) (v := .int .i64 k) rfl (by kernel_rfl) (by kernel_rfl) (by kernel_rfl) (fun _ _ _ h => h) (Or.inl ⟨by kernel_rfl, fun w => by first | (go_simp; done) | rfl⟩) ?_
          simp only [Act.put, List.getElem_toArray, List.getElem_cons_succ, List.getElem_cons_zero, List.setIfInBounds_toArray, List.set_cons_succ, List.set_cons_zero]
          refine wpAny_ready (rs := [2]) (by kernel_rfl) (by simp) ?_
          refine AllReady.cons rfl (fun K hK => ?_) AllReady.nil
          go_simp
          refine hK _ _ ?_
          clear hK K
          refine wpAny_ready (rs := [3]) (by kernel_rfl) (by simp) ?_
          refine AllReady.cons rfl (fun K hK => ?_) AllReady.nil
          go_simp
          refine hK _ _ ?_
          clear hK K
          refine wpAny_ready (rs := [4]) (by kernel_rfl) (by simp) ?_
          refine AllReady.cons rfl (fun K hK => ?_) AllReady.nil
          go_simp
          go_wp2_with (go_at_call 40; refine (HK.out _ ?_).mono ?_; (first | exact SB | exact SB.on ((Below.refl _ _).drew)); rintro e w1 ⟨rfl, L1⟩; have K1 : Below wr.heap.size wr w1 := (by first | exact L1 | exact ((Below.refl _ _).drew).trans L1); have y0 : w1.cell? ⟨b, o + k * 5, none⟩ = some (.int .i64 p.id) := (K1.cell (p := ⟨b, o + k * 5, none⟩) hlt).trans c0; have y1 : w1.cell? ⟨b, o + j * 5, none⟩ = some (.int .i64 u) := (K1.cell (p := ⟨b, o + j * 5, none⟩) hbj).trans q0)
          refine wpAny_take (i := 5) (v := .bool false) rfl (by kernel_rfl) (by kernel_rfl) (by kernel_rfl) (fun _ _ _ h => h) (Or.inl ⟨by kernel_rfl, fun w => by first | (go_simp; done) | rfl⟩) ?_
          simp only [Act.put, List.getElem_toArray, List.getElem_cons_succ, List.getElem_cons_zero, List.setIfInBounds_toArray, List.set_cons_succ, List.set_cons_zero]
          refine wpAny_take (i := 6) (v := .bool false) rfl (by kernel_rfl) (by kernel_rfl) (by kernel_rfl) (fun _ _ _ h => h) (Or.inl ⟨by kernel_rfl, fun w => by first | (go_simp; done) | rfl⟩) ?_
          simp only [Act.put, List.getElem_toArray, List.getElem_cons_succ, List.getElem_cons_zero, List.setIfInBounds_toArray, List.set_cons_succ, List.set_cons_zero]
          refine wpAny_take (i := 7) (v := .int .i64 k) rfl (by kernel_rfl) (by kernel_rfl) (by kernel_rfl) (fun _ _ _ h => h) (Or.inl ⟨by kernel_rfl, fun w => by first | (go_simp; done) | rfl⟩) ?_
          simp only [Act.put, List.getElem_toArray, List.getElem_cons_succ, List.getElem_cons_zero, List.setIfInBounds_toArray, List.set_cons_succ, List.set_cons_zero]
          refine wpAny_take (i := 8) (v := .bool true) rfl (by kernel_rfl) (by kernel_rfl) (by kernel_rfl) (fun _ _ _ h => h) (Or.inl ⟨by kernel_rfl, fun w => by first | (go_simp; done) | rfl⟩) ?_
          simp only [Act.put, List.getElem_toArray, List.getElem_cons_succ, List.getElem_cons_zero, List.setIfInBounds_toArray, List.set_cons_succ, List.set_cons_zero]
          refine wpAny_take (i := 9) (v := .bool true) rfl (by kernel_rfl) (by kernel_rfl) (by kernel_rfl) (fun _ _ _ h => h) (Or.inl ⟨by kernel_rfl, fun w => by first | (go_simp; done) | rfl⟩) ?_
          simp only [Act.put, List.getElem_toArray, List.getElem_cons_succ, List.getElem_cons_zero, List.setIfInBounds_toArray, List.set_cons_succ, List.set_cons_zero]
          refine wpAny_take (i := 10) (v := .slice (some ⟨b, o, none⟩) ts.length cap) rfl (by kernel_rfl) (by kernel_rfl) (by kernel_rfl) (fun _ _ _ h => h) (Or.inl ⟨by kernel_rfl, fun w => by first | (go_simp; done) | rfl⟩) ?_
          simp only [Act.put, List.getElem_toArray, List.getElem_cons_succ, List.getElem_cons_zero, List.setIfInBounds_toArray, List.set_cons_succ, List.set_cons_zero]
          refine wpAny_take (i := 11) (v := .int .i64 k) rfl (by kernel_rfl) (by kernel_rfl) (by kernel_rfl) (fun _ _ _ h => h) (Or.inl ⟨by kernel_rfl, fun w => by first | (go_simp; done) | rfl⟩) ?_
          simp only [Act.put, List.getElem_toArray, List.getElem_cons_succ, List.getElem_cons_zero, List.setIfInBounds_toArray, List.set_cons_succ, List.set_cons_zero]
          refine wpAny_take (i := 12) (v := .pointer (some ⟨b, o + k * 5, none⟩)) rfl (by kernel_rfl) (by kernel_rfl) (by kernel_rfl) (fun _ _ _ h => h) (Or.inl ⟨by kernel_rfl, fun w => by first | (go_simp; done) | rfl⟩) ?_
          simp only [Act.put, List.getElem_toArray, List.getElem_cons_succ, List.getElem_cons_zero, List.setIfInBounds_toArray, List.set_cons_succ, List.set_cons_zero]
          refine wpAny_take (i := 13) (v := .pointer (some ⟨b, o + k * 5, none⟩)) rfl (by kernel_rfl) (by kernel_rfl) (by kernel_rfl) (fun _ _ _ h => h) (Or.inl ⟨by kernel_rfl, fun w => by first | (go_simp; done) | rfl⟩) ?_
          simp only [Act.put, List.getElem_toArray, List.getElem_cons_succ, List.getElem_cons_zero, List.setIfInBounds_toArray, List.set_cons_succ, List.set_cons_zero]
          refine wpAny_take (i := 15) (v := .slice (some ⟨b, o, none⟩) ts.length cap) rfl (by kernel_rfl) (by kernel_rfl) (by kernel_rfl) (fun _ _ _ h => h) (Or.inl ⟨by kernel_rfl, fun w => by first | (go_simp; done) | rfl⟩) ?_
          simp only [Act.put, List.getElem_toArray, List.getElem_cons_succ, List.getElem_cons_zero, List.setIfInBounds_toArray, List.set_cons_succ, List.set_cons_zero]
          refine wpAny_take (i := 16) (v := .int .i64 k) rfl (by kernel_rfl) (by kernel_rfl) (by kernel_rfl) (fun _ _ _ h => h) (Or.inl ⟨by kernel_rfl, fun w => by first | (go_simp; done) | rfl⟩) ?_
          simp only [Act.put, List.getElem_toArray, List.getElem_cons_succ, List.getElem_cons_zero, List.setIfInBounds_toArray, List.set_cons_succ, List.set_cons_zero]
          refine wpAny_take (i := 17) (v := .int .i64 j) rfl (by kernel_rfl) (by kernel_rfl) (by kernel_rfl) (fun _ _ _ h => h) (Or.inl ⟨by kernel_rfl, fun w => by first | (go_simp; done) | rfl⟩) ?_
          simp only [Act.put, List.getElem_toArray, List.getElem_cons_succ, List.getElem_cons_zero, List.setIfInBounds_toArray, List.set_cons_succ, List.set_cons_zero]
          refine wpAny_take (i := 18) (v := .pointer (some ⟨b, o + j * 5, none⟩)) rfl (by kernel_rfl) (by kernel_rfl) (by kernel_rfl) (fun _ _ _ h => h) (Or.inl ⟨by kernel_rfl, fun w => by first | (go_simp; done) | rfl⟩) ?_
          simp only [Act.put, List.getElem_toArray, List.getElem_cons_succ, List.getElem_cons_zero, List.setIfInBounds_toArray, List.set_cons_succ, List.set_cons_zero]
          refine wpAny_take (i := 19) (v := .pointer (some ⟨b, o + j * 5, none⟩)) rfl (by kernel_rfl) (by kernel_rfl) (by kernel_rfl) (fun _ _ _ h => h) (Or.inl ⟨by kernel_rfl, fun w => by first | (go_simp; done) | rfl⟩) ?_
          simp only [Act.put, List.getElem_toArray, List.getElem_cons_succ, List.getElem_cons_zero, List.setIfInBounds_toArray, List.set_cons_succ, List.set_cons_zero]
          refine wpAny_ready (rs := [14, 20]) (by kernel_rfl) (by simp) ?_
          refine AllReady.cons rfl (fun K hK => ?_) (AllReady.cons rfl (fun K hK => ?_) AllReady.nil)
          · go_simp
            refine hK _ _ ?_
            clear hK K
            refine wpAny_ready (rs := [20]) (by kernel_rfl) (by simp) ?_
            refine AllReady.cons rfl (fun K hK => ?_) AllReady.nil
            go_simp
            refine hK _ _ ?_
            clear hK K
            refine wpAny_take (i := 21) (v := .bool false) rfl (by kernel_rfl) (by kernel_rfl) (by kernel_rfl) (fun _ _ _ h => h) (Or.inl ⟨by kernel_rfl, fun w => by first | (go_simp; done) | rfl⟩) ?_
            simp only [Act.put, List.getElem_toArray, List.getElem_cons_succ, List.getElem_cons_zero, List.setIfInBounds_toArray, List.set_cons_succ, List.set_cons_zero]
            refine wpAny_take (i := 22) (v := .bool false) rfl (by kernel_rfl) (by kernel_rfl) (by kernel_rfl) (fun _ _ _ h => h) (Or.inl ⟨by kernel_rfl, fun w => by first | (go_simp; done) | rfl⟩) ?_
            simp only [Act.put, List.getElem_toArray, List.getElem_cons_succ, List.getElem_cons_zero, List.setIfInBounds_toArray, List.set_cons_succ, List.set_cons_zero]
            refine wpAny_take (i := 23) (v := .bool false) rfl (by kernel_rfl) (by kernel_rfl) (by kernel_rfl) (fun _ _ _ h => h) (Or.inl ⟨by kernel_rfl, fun w => by first | (go_simp; done) | rfl⟩) ?_
            simp only [Act.put, List.getElem_toArray, List.getElem_cons_succ, List.getElem_cons_zero, List.setIfInBounds_toArray, List.set_cons_succ, List.set_cons_zero]
            refine wpAny_done (by kernel_rfl) ?_ _
            go_wp2
            go_roundw
            case rel => exact ⟨k + 1, by omega, by go_num, join_below L6 K1, HE⟩
            case measure => simp [intOf]; omega
          · go_simp
            refine hK _ _ ?_
            clear hK K
            refine wpAny_ready (rs := [14]) (by kernel_rfl) (by simp) ?_
            refine AllReady.cons rfl (fun K hK => ?_) AllReady.nil
            go_simp
            refine hK _ _ ?_
            clear hK K
            refine wpAny_take (i := 21) (v := .bool false) rfl (by kernel_rfl) (by kernel_rfl) (by kernel_rfl) (fun _ _ _ h => h) (Or.inl ⟨by kernel_rfl, fun w => by first | (go_simp; done) | rfl⟩) ?_
            simp only [Act.put, List.getElem_toArray, List.getElem_cons_succ, List.getElem_cons_zero, List.setIfInBounds_toArray, List.set_cons_succ, List.set_cons_zero]
            refine wpAny_take (i := 22) (v := .bool false) rfl (by kernel_rfl) (by kernel_rfl) (by kernel_rfl) (fun _ _ _ h => h) (Or.inl ⟨by kernel_rfl, fun w => by first | (go_simp; done) | rfl⟩) ?_
            simp only [Act.put, List.getElem_toArray, List.getElem_cons_succ, List.getElem_cons_zero, List.setIfInBounds_toArray, List.set_cons_succ, List.set_cons_zero]
            refine wpAny_take (i := 23) (v := .bool false) rfl (by kernel_rfl) (by kernel_rfl) (by kernel_rfl) (fun _ _ _ h => h) (Or.inl ⟨by kernel_rfl, fun w => by first | (go_simp; done) | rfl⟩) ?_
            simp only [Act.put, List.getElem_toArray, List.getElem_cons_succ, List.getElem_cons_zero, List.setIfInBounds_toArray, List.set_cons_succ, List.set_cons_zero]
            refine wpAny_done (by kernel_rfl) ?_ _
            go_wp2
            go_roundw
            case rel => exact ⟨k + 1, by omega, by go_num, join_below L6 K1, HE⟩
            case measure => simp [intOf]; omega
        · have hu2 : decide (p.id ≤ u) = true := decide_eq_true (by omega)
          rw [decide_eq_false hu] at hgap
          have HE : Hid (linesFrom ts 0 = false) := by show _ = _; rw [H.out, HS.out, hgap]; rfl
          have HJ : Hid (_) := hj
          clear hgap hj h0 H HS HP H0 HN
          go_wp2
          refine wp_region_any (by kernel_rfl) ?_
          try (change wpAny _ _ _ _ _ _ _ (World.drew _))
          refine wpAny_take (i := 0) (v := .slice (some ⟨b, o, none⟩) ts.length cap) rfl (by kernel_rfl) (by kernel_rfl) (by kernel_rfl) (fun _ _ _ h => h) (Or.inl ⟨by kernel_rfl, fun w => by first | (go_simp; done) | rfl⟩) ?_
          simp only [Act.put, List.getElem_toArray, List.getElem_cons_succ, List.getElem_cons_zero, List.setIfInBounds_toArray, List.set_cons_succ, List.set_cons_zero]
          refine wpAny_take (i := 1) (v := .int .i64 k) rfl (by kernel_rfl) (by kernel_rfl) (by kernel_rfl) (fun _ _ _ h => h) (Or.inl ⟨by kernel_rfl, fun w => by first | (go_simp; done) | rfl⟩) ?_
          simp only [Act.put, List.getElem_toArray, List.getElem_cons_succ, List.getElem_cons_zero, List.setIfInBounds_toArray, List.set_cons_succ, List.set_cons_zero]
          refine wpAny_ready (rs := [2]) (by kernel_rfl) (by simp) ?_
          refine AllReady.cons rfl (fun K hK => ?_) AllReady.nil
          go_simp
          refine hK _ _ ?_
          clear hK K
          refine wpAny_ready (rs := [3]) (by kernel_rfl) (by simp) ?_
          refine AllReady.cons rfl (fun K hK => ?_) AllReady.nil
          go_simp
          refine hK _ _ ?_
          clear hK K
          refine wpAny_ready (rs := [4]) (by kernel_rfl) (by simp) ?_
          refine AllReady.cons rfl (fun K hK => ?_) AllReady.nil
          go_simp
          go_wp2_with (go_at_call 40; refine (HK.out _ ?_).mono ?_; (first | exact SB | exact SB.on ((Below.refl _ _).drew)); rintro e w1 ⟨rfl, L1⟩; have K1 : Below wr.heap.size wr w1 := (by first | exact L1 | exact ((Below.refl _ _).drew).trans L1); have y0 : w1.cell? ⟨b, o + k * 5, none⟩ = some (.int .i64 p.id) := (K1.cell (p := ⟨b, o + k * 5, none⟩) hlt).trans c0; have y1 : w1.cell? ⟨b, o + j * 5, none⟩ = some (.int .i64 u) := (K1.cell (p := ⟨b, o + j * 5, none⟩) hbj).trans q0)
          refine wpAny_take (i := 5) (v := .bool false) rfl (by kernel_rfl) (by kernel_rfl) (by kernel_rfl) (fun _ _ _ h => h) (Or.inl ⟨by kernel_rfl, fun w => by first | (go_simp; done) | rfl⟩) ?_
          simp only [Act.put, List.getElem_toArray, List.getElem_cons_succ, List.getElem_cons_zero, List.setIfInBounds_toArray, List.set_cons_succ, List.set_cons_zero]
          refine wpAny_take (i := 6) (v := .bool false) rfl (by kernel_rfl) (by kernel_rfl) (by kernel_rfl) (fun _ _ _ h => h) (Or.inl ⟨by kernel_rfl, fun w => by first | (go_simp; done) | rfl⟩) ?_
          simp only [Act.put, List.getElem_toArray, List.getElem_cons_succ, List.getElem_cons_zero, List.setIfInBounds_toArray, List.set_cons_succ, List.set_cons_zero]
          refine wpAny_take (i := 7) (v := .int .i64 k) rfl (by kernel_rfl) (by kernel_rfl) (by kernel_rfl) (fun _ _ _ h => h) (Or.inl ⟨by kernel_rfl, fun w => by first | (go_simp; done) | rfl⟩) ?_
          simp only [Act.put, List.getElem_toArray, List.getElem_cons_succ, List.getElem_cons_zero, List.setIfInBounds_toArray, List.set_cons_succ, List.set_cons_zero]
          refine wpAny_take (i := 8) (v := .bool true) rfl (by kernel_rfl) (by kernel_rfl) (by kernel_rfl) (fun _ _ _ h => h) (Or.inl ⟨by kernel_rfl, fun w => by first | (go_simp; done) | rfl⟩) ?_
          simp only [Act.put, List.getElem_toArray, List.getElem_cons_succ, List.getElem_cons_zero, List.setIfInBounds_toArray, List.set_cons_succ, List.set_cons_zero]
          refine wpAny_take (i := 9) (v := .bool true) rfl (by kernel_rfl) (by kernel_rfl) (by kernel_rfl) (fun _ _ _ h => h) (Or.inl ⟨by kernel_rfl, fun w => by first | (go_simp; done) | rfl⟩) ?_
          simp only [Act.put, List.getElem_toArray, List.getElem_cons_succ, List.getElem_cons_zero, List.setIfInBounds_toArray, List.set_cons_succ, List.set_cons_zero]
          refine wpAny_take (i := 10) (v := .slice (some ⟨b, o, none⟩) ts.length cap) rfl (by kernel_rfl) (by kernel_rfl) (by kernel_rfl) (fun _ _ _ h => h) (Or.inl ⟨by kernel_rfl, fun w => by first | (go_simp; done) | rfl⟩) ?_
          simp only [Act.put, List.getElem_toArray, List.getElem_cons_succ, List.getElem_cons_zero, List.setIfInBounds_toArray, List.set_cons_succ, List.set_cons_zero]
          refine wpAny_take (i := 11) (v := .int .i64 k) rfl (by kernel_rfl) (by kernel_rfl) (by kernel_rfl) (fun _ _ _ h => h) (Or.inl ⟨by kernel_rfl, fun w => by first | (go_simp; done) | rfl⟩) ?_
          simp only [Act.put, List.getElem_toArray, List.getElem_cons_succ, List.getElem_cons_zero, List.setIfInBounds_toArray, List.set_cons_succ, List.set_cons_zero]
          refine wpAny_take (i := 12) (v := .pointer (some ⟨b, o + k * 5, none⟩)) rfl (by kernel_rfl) (by kernel_rfl) (by kernel_rfl) (fun _ _ _ h => h) (Or.inl ⟨by kernel_rfl, fun w => by first | (go_simp; done) | rfl⟩) ?_
          simp only [Act.put, List.getElem_toArray, List.getElem_cons_succ, List.getElem_cons_zero, List.setIfInBounds_toArray, List.set_cons_succ, List.set_cons_zero]
          refine wpAny_take (i := 13) (v := .pointer (some ⟨b, o + k * 5, none⟩)) rfl (by kernel_rfl) (by kernel_rfl) (by kernel_rfl) (fun _ _ _ h => h) (Or.inl ⟨by kernel_rfl, fun w => by first | (go_simp; done) | rfl⟩) ?_
          simp only [Act.put, List.getElem_toArray, List.getElem_cons_succ, List.getElem_cons_zero, List.setIfInBounds_toArray, List.set_cons_succ, List.set_cons_zero]
          refine wpAny_take (i := 15) (v := .slice (some ⟨b, o, none⟩) ts.length cap) rfl (by kernel_rfl) (by kernel_rfl) (by kernel_rfl) (fun _ _ _ h => h) (Or.inl ⟨by kernel_rfl, fun w => by first | (go_simp; done) | rfl⟩) ?_
          simp only [Act.put, List.getElem_toArray, List.getElem_cons_succ, List.getElem_cons_zero, List.setIfInBounds_toArray, List.set_cons_succ, List.set_cons_zero]
          refine wpAny_take (i := 16) (v := .int .i64 k) rfl (by kernel_rfl) (by kernel_rfl) (by kernel_rfl) (fun _ _ _ h => h) (Or.inl ⟨by kernel_rfl, fun w => by first | (go_simp; done) | rfl⟩) ?_
          simp only [Act.put, List.getElem_toArray, List.getElem_cons_succ, List.getElem_cons_zero, List.setIfInBounds_toArray, List.set_cons_succ, List.set_cons_zero]
          refine wpAny_take (i := 17) (v := .int .i64 j) rfl (by kernel_rfl) (by kernel_rfl) (by kernel_rfl) (fun _ _ _ h => h) (Or.inl ⟨by kernel_rfl, fun w => by first | (go_simp; done) | rfl⟩) ?_
          simp only [Act.put, List.getElem_toArray, List.getElem_cons_succ, List.getElem_cons_zero, List.setIfInBounds_toArray, List.set_cons_succ, List.set_cons_zero]
          refine wpAny_take (i := 18) (v := .pointer (some ⟨b, o + j * 5, none⟩)) rfl (by kernel_rfl) (by kernel_rfl) (by kernel_rfl) (fun _ _ _ h => h) (Or.inl ⟨by kernel_rfl, fun w => by first | (go_simp; done) | rfl⟩) ?_
          simp only [Act.put, List.getElem_toArray, List.getElem_cons_succ, List.getElem_cons_zero, List.setIfInBounds_toArray, List.set_cons_succ, List.set_cons_zero]
          refine wpAny_take (i := 19) (v := .pointer (some ⟨b, o + j * 5, none⟩)) rfl (by kernel_rfl) (by kernel_rfl) (by kernel_rfl) (fun _ _ _ h => h) (Or.inl ⟨by kernel_rfl, fun w => by first | (go_simp; done) | rfl⟩) ?_
          simp only [Act.put, List.getElem_toArray, List.getElem_cons_succ, List.getElem_cons_zero, List.setIfInBounds_toArray, List.set_cons_succ, List.set_cons_zero]
          refine wpAny_ready (rs := [14, 20]) (by kernel_rfl) (by simp) ?_
          refine AllReady.cons rfl (fun K hK => ?_) (AllReady.cons rfl (fun K hK => ?_) AllReady.nil)
          · go_simp
            refine hK _ _ ?_
            clear hK K
            refine wpAny_ready (rs := [20]) (by kernel_rfl) (by simp) ?_
            refine AllReady.cons rfl (fun K hK => ?_) AllReady.nil
            go_simp
            refine hK _ _ ?_
            clear hK K
            refine wpAny_take (i := 21) (v := .bool true) rfl (by kernel_rfl) (by kernel_rfl) (by kernel_rfl) (fun _ _ _ h => h) (Or.inl ⟨by kernel_rfl, fun w => by first | (go_simp; done) | rfl⟩) ?_
            simp only [Act.put, List.getElem_toArray, List.getElem_cons_succ, List.getElem_cons_zero, List.setIfInBounds_toArray, List.set_cons_succ, List.set_cons_zero]
            refine wpAny_take (i := 22) (v := .bool true) rfl (by kernel_rfl) (by kernel_rfl) (by kernel_rfl) (fun _ _ _ h => h) (Or.inl ⟨by kernel_rfl, fun w => by first | (go_simp; done) | rfl⟩) ?_
            simp only [Act.put, List.getElem_toArray, List.getElem_cons_succ, List.getElem_cons_zero, List.setIfInBounds_toArray, List.set_cons_succ, List.set_cons_zero]
            refine wpAny_take (i := 23) (v := .bool true) rfl (by kernel_rfl) (by kernel_rfl) (by kernel_rfl) (fun _ _ _ h => h) (Or.inl ⟨by kernel_rfl, fun w => by first | (go_simp; done) | rfl⟩) ?_
            simp only [Act.put, List.getElem_toArray, List.getElem_cons_succ, List.getElem_cons_zero, List.setIfInBounds_toArray, List.set_cons_succ, List.set_cons_zero]
            refine wpAny_done (by kernel_rfl) ?_ _
            go_wp2
            go_ret
            exact ⟨by rw [HO.out, HE.out] <;> rfl, join_below L6 K1⟩
          · go_simp
            refine hK _ _ ?_
            clear hK K
            refine wpAny_ready (rs := [14]) (by kernel_rfl) (by simp) ?_
            refine AllReady.cons rfl (fun K hK => ?_) AllReady.nil
            go_simp
            refine hK _ _ ?_
            clear hK K
            refine wpAny_take (i := 21) (v := .bool true) rfl (by kernel_rfl) (by kernel_rfl) (by kernel_rfl) (fun _ _ _ h => h) (Or.inl ⟨by kernel_rfl, fun w => by first | (go_simp; done) | rfl⟩) ?_
            simp only [Act.put, List.getElem_toArray, List.getElem_cons_succ, List.getElem_cons_zero, List.setIfInBounds_toArray, List.set_cons_succ, List.set_cons_zero]
            refine wpAny_take (i := 22) (v := .bool true) rfl (by kernel_rfl) (by kernel_rfl) (by kernel_rfl) (fun _ _ _ h => h) (Or.inl ⟨by kernel_rfl, fun w => by first | (go_simp; done) | rfl⟩) ?_
            simp only [Act.put, List.getElem_toArray, List.getElem_cons_succ, List.getElem_cons_zero, List.setIfInBounds_toArray, List.set_cons_succ, List.set_cons_zero]
            refine wpAny_take (i := 23) (v := .bool true) rfl (by kernel_rfl) (by kernel_rfl) (by kernel_rfl) (fun _ _ _ h => h) (Or.inl ⟨by kernel_rfl, fun w => by first | (go_simp; done) | rfl⟩) ?_
            simp only [Act.put, List.getElem_toArray, List.getElem_cons_succ, List.getElem_cons_zero, List.setIfInBounds_toArray, List.set_cons_succ, List.set_cons_zero]
            refine wpAny_done (by kernel_rfl) ?_ _
            go_wp2
            go_ret
            exact ⟨by rw [HO.out, HE.out] <;> rfl, join_below L6 K1⟩
    · have HE : Hid (linesFrom ts 0 = true) := by show _ = _; rw [H.out, linesFrom_end ts k hkn]
      go_wp2
      go_ret
      exact ⟨by rw [HO.out, HE.out] <;> rfl, L⟩

end Tn
end Go.Proofs.Ytfoccmhmgdengaa

/- The contract of the model's Earliest. -/
namespace Go.Proofs.Ytfoccmhmgdengaa
namespace Rd
open Go.ChangeShapes Go.WideShapes Go.ChangeAt Go.RowKit
open Pk (new_below join_below cell_at heap_new frozen_at lt_of kept heap_old info_of own_form)
open Tn (Tr St Hd idx dayBit z0 okB Trains Stops)
set_option linter.unusedSimpArgs false
set_option linter.unusedVariables false

/-- The best way so far, as it lies. -/
def bA (b : Option Pw) : Option Addr := match b with | none => none | some p => p.a
def bC (b : Option Pw) : Nat := match b with | none => 0 | some p => p.cap
def bN (b : Option Pw) : Nat := match b with | none => 0 | some p => p.o.p.length
def bS (b : Option Pw) : Int := match b with | none => 0 | some p => p.o.s
def bZ (b : Option Pw) : Int := match b with | none => 0 | some p => p.o.z
abbrev bO (b : Option Pw) : Obj := .cells #[.slice (bA b) (bN b) (bC b), .int .i64 (bS b), .int .i64 (bZ b)] 70

theorem h_set {w : World} {c i : Nat} {cs : Array Value} {t : TypeId} {f : Nat × Nat} (h : w.heap[c]? = some (.cells cs t f)) (u : Value) : (w.setCell ⟨c, i, none⟩ u).heap[c]? = some (.cells (cs.setIfInBounds i u) t f) := by
  unfold World.setCell
  simp [Array.getElem?_modify, h]

theorem RideAt.off {w : World} {base B i c : Nat} {a : Option Addr} {l : List Ri} {cs : Array Value} {f : Nat × Nat} {u : Value} (h : RideAt w base a c l) (hb : w.heap[B]? = some (.cells cs 70 f)) : RideAt (w.setCell ⟨B, i, none⟩ u) base a c l :=
  h.keep (by rw [World.size_setCell]; exact Nat.le_refl _) fun g cs' f' hg => Below.heap_setCell w ⟨B, i, none⟩ u g (by
    show g ≠ B
    intro e
    rw [e, hb] at hg
    simp only [Option.some.injEq, Obj.cells.injEq] at hg
    exact absurd hg.2.1 (by decide))

theorem Lw.off {w : World} {base B i : Nat} {v : Value} {ps : List Pw} {cs : Array Value} {f : Nat × Nat} {u : Value} (h : Lw w base v ps) (hb : w.heap[B]? = some (.cells cs 70 f)) (hne : ∀ g, v.ownBlock = some g → g ≠ B) : Lw (w.setCell ⟨B, i, none⟩ u) base v ps :=
  ⟨own_kept h.own (grown_set u) fun g hg e => by simp only [Option.some.injEq] at e; exact hne g hg e.symm, fun p hp => (h.rds p hp).off hb⟩

theorem own_one (w : World) (x y z : Value) : (w.alloc (.cells #[x, y, z] 70)).ownsRow w.heap.size 70 3 (.slice (some ⟨w.heap.size, 0, none⟩) 1 1) 1 [x, y, z] :=
  ⟨rfl, Or.inr ⟨w.heap.size, 1, #[x, y, z], rfl, Nat.le_refl _, heap_new w _, Nat.le_refl _, by unfold maxLen; omega, rfl, rfl⟩⟩

set_option maxHeartbeats 16000000 in
set_option maxRecDepth 100000 in
theorem specEarliest_val (ts : List Tr) (a : Option Addr) (c : Nat) (fr tt day mi : Int) (w : World) (hn : ts.length ≤ 1048576) (hs : ∀ i (h : i < ts.length), ts[i].l.length ≤ 1048576) (I : Trains w a ts) :
    Calls Try.prog 8 #[.slice a ts.length c, .int .i64 fr, .int .i64 tt, .int .i64 day, .int .i64 mi] w fun e w' => ∃ a' c' rs z b, e = .returned (.tuple #[.slice a' rs.length c', .int .i64 z, .bool b]) ∧ Told ts fr tt day mi rs z b ∧ rs.length ≤ 6 ∧ RideAt w' w.heap.size a' c' rs ∧ Below w.heap.size w w' := by
  have HL : Hid (∀ W, Below w.heap.size w W → _) := fun W (K : Below w.heap.size w W) => Tn.specLines_val a ts c W (by unfold maxLen; omega) (fun i h => by have := hs i h; unfold maxLen; omega) (I.on K)
  have H1 : Hid (∀ W, _) := fun W => Tn.in_val day 0 90000 W
  have H2 : Hid (∀ W, _) := fun W => Tn.in_val mi 0 1439 W
  have HD : Hid (Tn.inB day 0 90000 = true → 0 ≤ day ∧ day ≤ 90000) := Tn.inB_yes
  have HM : Hid (Tn.inB mi 0 1439 = true → 0 ≤ mi ∧ mi ≤ 1439) := Tn.inB_yes
  have HO : Hid (Tn.linesB ts = true → _) := lines_ok
  have HE : Hid (earB ts fr tt day mi = (Tn.linesB ts && (!(fr == tt) && (Tn.inB day 0 90000 && Tn.inB mi 0 1439)))) := rfl
  have HNO : Hid (earB ts fr tt day mi = false → Told ts fr tt day mi [] 0 false) := fun h => Or.inr ⟨rfl, rfl, rfl, fun e => by rw [h] at e; cases e⟩
  generalize Tn.linesB ts = b1 at *
  generalize Tn.inB day 0 90000 = b2 at *
  generalize Tn.inB mi 0 1439 = b3 at *
  go_enter Try.func8, Try.ntmps8
  go_wp2_with fail
  refine (HL.out _ (Below.refl _ _)).mono ?_
  rintro e w1 ⟨rfl, L1⟩
  cases b1
  · have HX : Hid (earB ts fr tt day mi = false) := by show _ = _; rw [HE.out]; rfl
    have NX := new_below w1 (.cells #[] 37)
    go_wp2
    refine bodyPost_ret (results_tmp3 rfl _ _ _) rfl ?_
    exact ⟨_, 0, [], 0, false, rfl, HNO.out HX.out, by simp, own_empty _ _ _ _ L1.size, L1.trans (NX.mono L1.size)⟩
  by_cases hft : fr = tt
  · have ht : (fr == tt) = true := beq_iff_eq.2 hft
    have HX : Hid (earB ts fr tt day mi = false) := by show _ = _; rw [HE.out, ht]; rfl
    subst hft
    have NX := new_below w1 (.cells #[] 37)
    go_wp2
    refine bodyPost_ret (results_tmp3 rfl _ _ _) rfl ?_
    exact ⟨_, 0, [], 0, false, rfl, HNO.out HX.out, by simp, own_empty _ _ _ _ L1.size, L1.trans (NX.mono L1.size)⟩
  have ht : (fr == tt) = false := beq_eq_false_iff_ne.2 hft
  go_wp2_with fail
  refine (H1.out _).mono ?_
  rintro e w2 ⟨rfl, rfl⟩
  cases b2
  · have HX : Hid (earB ts fr tt day mi = false) := by show _ = _; rw [HE.out, ht]; rfl
    have NX := new_below w2 (.cells #[] 37)
    go_wp2
    refine bodyPost_ret (results_tmp3 rfl _ _ _) rfl ?_
    exact ⟨_, 0, [], 0, false, rfl, HNO.out HX.out, by simp, own_empty _ _ _ _ L1.size, L1.trans (NX.mono L1.size)⟩
  go_wp2_with fail
  refine (H2.out _).mono ?_
  rintro e w3 ⟨rfl, rfl⟩
  cases b3
  · have HX : Hid (earB ts fr tt day mi = false) := by show _ = _; rw [HE.out, ht]; rfl
    have NX := new_below w3 (.cells #[] 37)
    go_wp2
    refine bodyPost_ret (results_tmp3 rfl _ _ _) rfl ?_
    exact ⟨_, 0, [], 0, false, rfl, HNO.out HX.out, by simp, own_empty _ _ _ _ L1.size, L1.trans (NX.mono L1.size)⟩
  have hE : earB ts fr tt day mi = true := by rw [HE.out, ht]; rfl
  have HEE : Hid (earB ts fr tt day mi = true) := hE
  obtain ⟨hd0, hd1⟩ := HD.out (by first | rfl | trivial)
  obtain ⟨hm0, hm1⟩ := HM.out (by first | rfl | trivial)
  obtain ⟨hn40, hok⟩ := HO.out (by first | rfl | trivial)
  clear HE HNO HL H1 H2 HD HM HO hE
  obtain ⟨first, hfi⟩ : ∃ x, 1440 * day + mi = x := ⟨_, rfl⟩
  have hf0 : 0 ≤ first := by omega
  have hf1 : first ≤ 200000000 := by omega
  have hw1 : IntKind.i64.wrap (1440 * day) = 1440 * day := by rw [IntKind.wrap_i64]; omega
  have hw2 : IntKind.i64.wrap first = first := by rw [IntKind.wrap_i64]; omega
  have N1 := new_below w3 (.cells #[.slice none 0 0, .int .i64 fr, .int .i64 0] 70)
  have O1 := own_one w3 (.slice none 0 0) (.int .i64 fr) (.int .i64 0)
  have N2 := new_below (w3.alloc (.cells #[.slice none 0 0, .int .i64 fr, .int .i64 0] 70)) (.cells #[.slice none 0 0, .int .i64 0, .int .i64 0] 70)
  have x2 := heap_new (w3.alloc (.cells #[.slice none 0 0, .int .i64 fr, .int .i64 0] 70)) (.cells #[.slice none 0 0, .int .i64 0, .int .i64 0] 70)
  have O2 := Pk.own_below O1 N2 (Nat.le_refl _)
  have e2 : (w3.alloc (.cells #[.slice none 0 0, .int .i64 fr, .int .i64 0] 70)).heap.size = w3.heap.size + 1 := Array.size_push ..
  rw [e2] at x2
  have L2 := L1.trans ((join_below N1 N2).mono L1.size)
  have HL2 : Hid (Lw ((w3.alloc (.cells #[.slice none 0 0, .int .i64 fr, .int .i64 0] 70)).alloc (.cells #[.slice none 0 0, .int .i64 0, .int .i64 0] 70)) w3.heap.size (.slice (some ⟨w3.heap.size, 0, none⟩) 1 1) [⟨none, 0, ⟨[], fr, 0⟩⟩]) := ⟨O2, fun p hp => by obtain rfl := List.mem_singleton.1 hp; exact RideAt.zero _ _⟩
  have HNE : Hid (∀ g, (Value.slice (some ⟨w3.heap.size, 0, none⟩) 1 1).ownBlock = some g → g ≠ w3.heap.size + 1) := fun g hg => by
    have h : some w3.heap.size = some g := hg
    simp only [Option.some.injEq] at h
    omega
  have hb2 : w.heap.size ≤ w3.heap.size := L1.size
  have hb3 := lt_of x2
  clear N1 N2 O1 O2 e2 L1
  go_wp2
  generalize ((w3.alloc (.cells #[.slice none 0 0, .int .i64 fr, .int .i64 0] 70)).alloc (.cells #[.slice none 0 0, .int .i64 0, .int .i64 0] 70)) = W2 at *
  generalize hBB : w3.heap.size + 1 = BB at *
  go_loopw [13, 15] (fun vz i wr => ∃ (n b0 : Nat) (vo : Value) (ps : List Pw) (b : Option Pw), vo = vz ∧ n ≤ 6 ∧ i = .int .i64 ((n : Int) + 1) ∧ Below w.heap.size w wr ∧ w.heap.size ≤ b0 ∧ Hid (Lw wr b0 vo ps) ∧ Hid (Lay ts day first fr n ps) ∧ Hid (Pick ts day first fr tt n b) ∧ wr.heap[BB]? = some (bO b) ∧ Hid (∀ g, vo.ownBlock = some g → g ≠ BB) ∧ Hid (∀ p, b = some p → RideAt wr w.heap.size p.a p.cap (ridesOf p.o.p))) (fun _ i _ => (7 - intOf i).toNat)
  case atStart => exact ⟨0, w3.heap.size, _, _, none, rfl, by omega, rfl, L2, hb2, HL2, lay_0 ts day first fr, pick_0 ts day first fr tt, x2, HNE, fun p hp => by cases hp⟩
  case round =>
    obtain ⟨n, b0, vo, ps, b, rfl, hn6, rfl, L3, hb0, HL3, HY, HP, m3, HN3, HR3⟩ := hrel
    by_cases hn7 : n < 6
    · have ht6 : decide ((n : Int) + 1 ≤ 6) = true := decide_eq_true (by omega)
      have HX : Hid (∀ _ : Unit, _) := fun _ => specNext_val ts ps day first a c b0 vo wr hn40 hok (by have := HY.out.len; omega) (fun p hp => by have h := HY.out.bd p hp; exact ⟨by omega, h.2.1, h.2.2.1, h.2.2.2⟩) hd0 hd1 hf0 hf1 (I.on L3) HL3.out
      go_wp2_with fail
      refine (HX.out ()).mono ?_
      rintro e w5 ⟨v5, qs, rfl, HL5, hqe, L5⟩
      have HY5 : Hid (Lay ts day first fr (n + 1) qs) := HY.out.next hok hn40 hd1 hqe
      have m5 := kept L5 (lt_of m3) m3
      have HN5 : Hid (∀ g, v5.ownBlock = some g → g ≠ BB) := fun g hg => by
        have := (HL5.own.lt g hg).1
        have := lt_of m3
        omega
      have L6 := L3.trans (L5.mono L3.size)
      have hb5 : w.heap.size ≤ wr.heap.size := L3.size
      have HR5 : Hid (∀ p, b = some p → RideAt w5 w.heap.size p.a p.cap (ridesOf p.o.p)) := fun p hp => (HR3.out p hp).on L5
      have hql := HY5.out.len
      have HL5' : Hid (Lw w5 wr.heap.size v5 qs) := HL5
      generalize wr.heap.size = B5 at *
      obtain ⟨va, vc, rfl, -⟩ := own_form HL5.own
      clear HX HL3 HY m3 HN3 HR3 L5 L3 hqe HL5
      go_wp2
      go_loopw [16] (fun i wr => ∃ (k : Nat) (bk : Option Pw), k ≤ qs.length ∧ i = .int .i64 k ∧ Below w.heap.size w wr ∧ Hid (Lw wr B5 (.slice va qs.length vc) qs) ∧ wr.heap[BB]? = some (bO bk) ∧ Hid (bk = (qs.take k).foldl (betterP tt) b) ∧ Hid (∀ p, bk = some p → RideAt wr w.heap.size p.a p.cap (ridesOf p.o.p))) (fun i _ => qs.length - (intOf i).toNat)
      case atStart => exact ⟨0, b, by omega, rfl, L6, HL5', m5, rfl, HR5⟩
      case round =>
        obtain ⟨k, bk, hk, rfl, L7, HL7, m7, HB, HR7⟩ := hrel
        by_cases hkn : k < qs.length
        · obtain ⟨g, c', hv, hg, -, ⟨d0, -⟩, ⟨d1, -⟩, ⟨d2, -⟩⟩ := HL7.out.at k hkn
          simp only [Value.slice.injEq] at hv
          obtain ⟨rfl, -, rfl⟩ := hv
          have hbl : ∀ p, bk = some p → 1 ≤ p.o.p.length := fun p hp => by
            have h := HB.out.symm
            rw [hp] at h
            rcases foldP_mem tt _ _ p h with h | h
            · exact (HP.out.bd p h).1
            · have := (HY5.out.bd p (List.mem_of_mem_take h)).1
              omega
          have HBK : Hid ((qs.take (k + 1)).foldl (betterP tt) b = betterP tt bk qs[k]) := by
            show _ = _
            rw [fold_take tt qs b k hkn, ← HB.out]
          have RA := (HL7.out.rds _ (List.getElem_mem hkn)).lower hb5
          change wr.cell? ⟨g, k * 3, none⟩ = some (.slice qs[k].a qs[k].o.p.length qs[k].cap) at d0
          generalize qs[k] = q at *
          obtain ⟨qa, qc, qp, qx, qz⟩ := q
          dsimp only at d0 d1 d2 RA
          have N8 := new_below wr (.cells #[.slice qa qp.length qc, .int .i64 qx, .int .i64 qz] 70)
          have x8 := heap_new wr (.cells #[.slice qa qp.length qc, .int .i64 qx, .int .i64 qz] 70)
          have m8 := kept N8 (lt_of m7) m7
          have L8 := L7.trans (N8.mono L7.size)
          have HL8 : Hid (Lw (wr.alloc (.cells #[.slice qa qp.length qc, .int .i64 qx, .int .i64 qz] 70)) B5 (.slice (some ⟨g, 0, none⟩) qs.length vc) qs) := HL7.out.on N8
          have RA8 := RA.on N8
          have HR8 : Hid (∀ p, bk = some p → RideAt (wr.alloc (.cells #[.slice qa qp.length qc, .int .i64 qx, .int .i64 qz] 70)) w.heap.size p.a p.cap (ridesOf p.o.p)) := fun p hp => (HR7.out p hp).on N8
          have htk : decide ((k : Int) < (qs.length : Int)) = true := decide_eq_true (by omega)
          have hbb : w.heap.size ≤ BB := by omega
          have f0 : (wr.alloc (.cells #[.slice qa qp.length qc, .int .i64 qx, .int .i64 qz] 70)).frozen? ⟨BB, 0, none⟩ = false := frozen_at m8 0
          have f1 : (wr.alloc (.cells #[.slice qa qp.length qc, .int .i64 qx, .int .i64 qz] 70)).frozen? ⟨BB, 1, none⟩ = false := frozen_at m8 1
          have f2 : (wr.alloc (.cells #[.slice qa qp.length qc, .int .i64 qx, .int .i64 qz] 70)).frozen? ⟨BB, 2, none⟩ = false := frozen_at m8 2
          clear HL7 HR7 RA L7 N8 HB m5 HL5' HR5
          go_upto_region 13 with fail
          generalize wr.alloc (.cells #[.slice qa qp.length qc, .int .i64 qx, .int .i64 qz] 70) = W8 at *
          generalize wr.heap.size = BX at *
          have c0 : W8.cell? ⟨BX, 0, none⟩ = some (.slice qa qp.length qc) := cell_at x8 0
          have c1 : W8.cell? ⟨BX, 1, none⟩ = some (.int .i64 qx) := cell_at x8 1
          have c2 : W8.cell? ⟨BX, 2, none⟩ = some (.int .i64 qz) := cell_at x8 2
          have e0 : W8.cell? ⟨BB, 0, none⟩ = some (.slice (bA bk) (bN bk) (bC bk)) := cell_at m8 0
          have e1 : W8.cell? ⟨BB, 1, none⟩ = some (.int .i64 (bS bk)) := cell_at m8 1
          have e2 : W8.cell? ⟨BB, 2, none⟩ = some (.int .i64 (bZ bk)) := cell_at m8 2
          clear d0 d1 d2 m7
          by_cases hxs : qx = tt
          · have ht1 : (qx == tt) = true := beq_iff_eq.2 hxs
            have HXS : Hid (qx = tt) := hxs
            clear hxs
            cases bk
            · have HBN : Hid (some (⟨qa, qc, qp, qx, qz⟩ : Pw) = (qs.take (k + 1)).foldl (betterP tt) b) := by
                show _ = _
                rw [HBK.out]
                unfold betterP
                rw [if_pos ⟨HXS.out, fun v hv => by cases hv⟩]
              change W8.cell? ⟨BB, 0, none⟩ = some (.slice none 0 0) at e0
              have M1 := h_set (i := 0) m8 (.slice qa qp.length qc)
              have M2 := h_set (i := 1) M1 (.int .i64 qx)
              have M3 : (((W8.setCell ⟨BB, 0, none⟩ (.slice qa qp.length qc)).setCell ⟨BB, 1, none⟩ (.int .i64 qx)).setCell ⟨BB, 2, none⟩ (.int .i64 qz)).heap[BB]? = some (bO (some ⟨qa, qc, qp, qx, qz⟩)) := h_set (i := 2) M2 (.int .i64 qz)
              have LS : Hid (Lw (((W8.setCell ⟨BB, 0, none⟩ (.slice qa qp.length qc)).setCell ⟨BB, 1, none⟩ (.int .i64 qx)).setCell ⟨BB, 2, none⟩ (.int .i64 qz)) B5 (.slice (some ⟨g, 0, none⟩) qs.length vc) qs) := ((HL8.out.off m8 HN5.out).off M1 HN5.out).off M2 HN5.out
              have RS : Hid (∀ p, some (⟨qa, qc, qp, qx, qz⟩ : Pw) = some p → RideAt (((W8.setCell ⟨BB, 0, none⟩ (.slice qa qp.length qc)).setCell ⟨BB, 1, none⟩ (.int .i64 qx)).setCell ⟨BB, 2, none⟩ (.int .i64 qz)) w.heap.size p.a p.cap (ridesOf p.o.p)) := fun p hp => by
                simp only [Option.some.injEq] at hp
                subst hp
                exact ((RA8.off m8).off M1).off M2
              have LZ : Below w.heap.size w (((W8.setCell ⟨BB, 0, none⟩ (.slice qa qp.length qc)).setCell ⟨BB, 1, none⟩ (.int .i64 qx)).setCell ⟨BB, 2, none⟩ (.int .i64 qz)) := ((L8.setCell hbb _).setCell hbb _).setCell hbb _
              clear M1 M2 m8 HL8 RA8 L8
              go_wp2
              go_roundw
              case rel => exact ⟨k + 1, some ⟨qa, qc, qp, qx, qz⟩, by omega, by go_num, LZ, LS, M3, HBN, RS⟩
              case measure => simp [intOf]; omega
            · rename_i p9
              have hl9 := hbl p9 rfl
              have ht2 : ((p9.o.p.length : Int) == 0) = false := beq_eq_false_iff_ne.2 (by omega)
              change W8.cell? ⟨BB, 0, none⟩ = some (.slice p9.a p9.o.p.length p9.cap) at e0
              change W8.cell? ⟨BB, 2, none⟩ = some (.int .i64 p9.o.z) at e2
              by_cases hz : qz < p9.o.z
              · have htz : decide (qz < p9.o.z) = true := decide_eq_true hz
                have HBN : Hid (some (⟨qa, qc, qp, qx, qz⟩ : Pw) = (qs.take (k + 1)).foldl (betterP tt) b) := by
                  show _ = _
                  rw [HBK.out]
                  unfold betterP
                  rw [if_pos ⟨HXS.out, fun v hv => by simp only [Option.some.injEq] at hv; rw [← hv]; exact hz⟩]
                have M1 := h_set (i := 0) m8 (.slice qa qp.length qc)
                have M2 := h_set (i := 1) M1 (.int .i64 qx)
                have M3 : (((W8.setCell ⟨BB, 0, none⟩ (.slice qa qp.length qc)).setCell ⟨BB, 1, none⟩ (.int .i64 qx)).setCell ⟨BB, 2, none⟩ (.int .i64 qz)).heap[BB]? = some (bO (some ⟨qa, qc, qp, qx, qz⟩)) := h_set (i := 2) M2 (.int .i64 qz)
                have LS : Hid (Lw (((W8.setCell ⟨BB, 0, none⟩ (.slice qa qp.length qc)).setCell ⟨BB, 1, none⟩ (.int .i64 qx)).setCell ⟨BB, 2, none⟩ (.int .i64 qz)) B5 (.slice (some ⟨g, 0, none⟩) qs.length vc) qs) := ((HL8.out.off m8 HN5.out).off M1 HN5.out).off M2 HN5.out
                have RS : Hid (∀ p, some (⟨qa, qc, qp, qx, qz⟩ : Pw) = some p → RideAt (((W8.setCell ⟨BB, 0, none⟩ (.slice qa qp.length qc)).setCell ⟨BB, 1, none⟩ (.int .i64 qx)).setCell ⟨BB, 2, none⟩ (.int .i64 qz)) w.heap.size p.a p.cap (ridesOf p.o.p)) := fun p hp => by
                  simp only [Option.some.injEq] at hp
                  subst hp
                  exact ((RA8.off m8).off M1).off M2
                have LZ : Below w.heap.size w (((W8.setCell ⟨BB, 0, none⟩ (.slice qa qp.length qc)).setCell ⟨BB, 1, none⟩ (.int .i64 qx)).setCell ⟨BB, 2, none⟩ (.int .i64 qz)) := ((L8.setCell hbb _).setCell hbb _).setCell hbb _
                clear M1 M2 m8 HL8 RA8 L8
                go_wp2
                go_roundw
                case rel => exact ⟨k + 1, some ⟨qa, qc, qp, qx, qz⟩, by omega, by go_num, LZ, LS, M3, HBN, RS⟩
                case measure => simp [intOf]; omega
              · have htz : decide (qz < p9.o.z) = false := decide_eq_false hz
                have HBN : Hid (some p9 = (qs.take (k + 1)).foldl (betterP tt) b) := by
                  show _ = _
                  rw [HBK.out]
                  unfold betterP
                  rw [if_neg (fun h => hz (h.2 p9 rfl))]
                go_wp2
                go_roundw
                case rel => exact ⟨k + 1, some p9, by omega, by go_num, L8, HL8, m8, HBN, HR8⟩
                case measure => simp [intOf]; omega
          · have ht1 : (qx == tt) = false := beq_eq_false_iff_ne.2 hxs
            have HBN : Hid (bk = (qs.take (k + 1)).foldl (betterP tt) b) := by
              show _ = _
              rw [HBK.out]
              unfold betterP
              rw [if_neg (fun h => hxs h.1)]
            go_wp2
            go_roundw
            case rel => exact ⟨k + 1, bk, by omega, by go_num, L8, HL8, m8, HBN, HR8⟩
            case measure => simp [intOf]; omega
        · obtain rfl : k = qs.length := by omega
          have htk : decide ((qs.length : Int) < (qs.length : Int)) = false := decide_eq_false (by omega)
          have HP8 : Hid (Pick ts day first fr tt (n + 1) bk) := by
            have h := HP.out.next HY5.out hn7
            rw [HB.out, List.take_length]
            exact h
          clear m5 HL5' HR5
          go_wp2
          go_roundw
          case rel => exact ⟨n + 1, B5, _, qs, bk, rfl, by omega, by go_num, L7, hb5, HL7, HY5, HP8, m7, HN5, HR7⟩
          case measure => simp [intOf]; omega
    · obtain rfl : n = 6 := by omega
      have HP6 : Hid (Pick ts day (1440 * day + mi) fr tt 6 b) := by rw [hfi]; exact HP.out
      obtain ⟨HT0, HT1⟩ := HP6.out.told HEE.out
      have HTA : Hid (b = none → _) := HT0
      have HTB : Hid (∀ p, b = some p → _) := HT1
      have hpb : ∀ p, b = some p → 1 ≤ p.o.p.length ∧ p.o.p.length ≤ 6 := fun p hp => ⟨(HP.out.bd p hp).1, (HP.out.bd p hp).2.1⟩
      have e0 : wr.cell? ⟨BB, 0, none⟩ = some (.slice (bA b) (bN b) (bC b)) := cell_at m3 0
      have e2 : wr.cell? ⟨BB, 2, none⟩ = some (.int .i64 (bZ b)) := cell_at m3 2
      clear HT0 HT1 HP6 HP HY HL3 HN3
      cases b
      · change wr.cell? ⟨BB, 0, none⟩ = some (.slice none 0 0) at e0
        have HTN : Hid (Told ts fr tt day mi [] 0 false) := HTA.out rfl
        have NX := new_below wr (.cells #[] 37)
        go_wp2
        refine bodyPost_ret (results_tmp3 rfl _ _ _) rfl ?_
        refine ⟨some ⟨wr.heap.size, 0, none⟩, 0, [], 0, ?_⟩
        first
          | exact Or.inl ⟨rfl, HTN.out, by simp, own_empty _ _ _ _ L3.size, L3.trans (NX.mono L3.size)⟩
          | exact ⟨false, rfl, HTN.out, by simp, own_empty _ _ _ _ L3.size, L3.trans (NX.mono L3.size)⟩
      · rename_i p9
        obtain ⟨hl9, hl6⟩ := hpb p9 rfl
        have ht2 : ((p9.o.p.length : Int) == 0) = false := beq_eq_false_iff_ne.2 (by omega)
        have HTN : Hid (Told ts fr tt day mi (ridesOf p9.o.p) p9.o.z true) := HTB.out p9 rfl
        have HRN : Hid (RideAt wr w.heap.size p9.a p9.cap (ridesOf p9.o.p)) := HR3.out p9 rfl
        change wr.cell? ⟨BB, 0, none⟩ = some (.slice p9.a p9.o.p.length p9.cap) at e0
        change wr.cell? ⟨BB, 2, none⟩ = some (.int .i64 p9.o.z) at e2
        go_wp2
        go_quiet (fail)
        go_wp2
        refine bodyPost_ret (results_tmp3 rfl _ _ _) rfl ?_
        refine ⟨p9.a, p9.cap, ridesOf p9.o.p, p9.o.z, ?_⟩
        have h6 : (ridesOf p9.o.p).length ≤ 6 := by rw [ridesOf_length]; exact hl6
        have hlen := ridesOf_length p9.o.p
        first
          | exact Or.inr ⟨by rw [hlen] <;> rfl, HTN.out, h6, HRN.out.on (Pk.Drawn.below _ ⟨_, rfl⟩), L3.trans (Pk.Drawn.below _ ⟨_, rfl⟩)⟩
          | exact ⟨true, by rw [hlen] <;> rfl, HTN.out, h6, HRN.out.on (Pk.Drawn.below _ ⟨_, rfl⟩), L3.trans (Pk.Drawn.below _ ⟨_, rfl⟩)⟩

end Rd
end Go.Proofs.Ytfoccmhmgdengaa

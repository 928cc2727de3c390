/- CentreOk of program and model. -/
import Derived.Test.YtbmfhdlbbaabgaaCeCmp
namespace Go.Proofs.Ytbmfhdlbbaabgaa
namespace Hn
open Go.ChangeShapes Go.WideShapes Go.ChangeAt Go.RowKit Go.Joins
open Pk (new_below join_below cell_at heap_new frozen_at lt_of kept heap_old Drawn info_of Room)
set_option linter.unusedSimpArgs false
set_option linter.unusedVariables false

/-- Controls that ascend. -/
def ascB : List Ct → Bool
  | [] => true
  | [_] => true
  | a :: b :: t => ltC a b && ascB (b :: t)

def ctlB (l : List Ct) : Bool := decide (l.length ≤ 600) && ascB l

/-- Whether a centre is right. -/
def cenB (o : Ctr) : Bool := decide (0 ≤ o.ve) && (offB o.ol && ctlB o.sl)

theorem asc_step {l : List Ct} {k : Nat} (hk : k + 1 < l.length) : ascB (l.drop k) = (ltC (l[k]'(by omega)) l[k + 1] && ascB (l.drop (k + 1))) := by
  rw [List.drop_eq_getElem_cons (by omega : k < l.length), List.drop_eq_getElem_cons hk]
  rfl

theorem asc_at {l : List Ct} {k j : Nat} (hj : k = j + 1) (hk : k < l.length) : ascB (l.drop j) = (ltC (l[j]'(by omega)) l[k] && ascB (l.drop k)) := by
  subst hj
  exact asc_step hk

theorem asc_end {l : List Ct} {k : Nat} (hk : ¬ k + 1 < l.length) : ascB (l.drop k) = true := by
  rcases Nat.lt_or_ge k l.length with h | h
  · rw [List.drop_eq_getElem_cons h, List.drop_eq_nil_of_le (by omega)]
    rfl
  · rw [List.drop_eq_nil_of_le h]
    rfl

theorem ctl_long {l : List Ct} (h : ¬ l.length ≤ 600) : ctlB l = false := by unfold ctlB; rw [decide_eq_false h, Bool.false_and]
theorem ctl_short {l : List Ct} (h : l.length ≤ 600) : ctlB l = ascB l := by unfold ctlB; rw [decide_eq_true h, Bool.true_and]
theorem ctl_down {l : List Ct} (h : ascB l = false) : ctlB l = false := by unfold ctlB; rw [h, Bool.and_false]
theorem ctl_up {l : List Ct} (h : ascB l = true) : ctlB l = decide (l.length ≤ 600) := by unfold ctlB; rw [h, Bool.and_true]

theorem cmp_ge {a b : Ct} {r s : Bool} (h : (ltC a b && r) = s) : (decide (0 ≤ cmpC a b) = true ∧ s = false) ∨ (decide (0 ≤ cmpC a b) = false ∧ r = s) := by
  rw [cmpC_lt]
  cases hl : ltC a b
  · rw [hl] at h; exact Or.inl ⟨rfl, h.symm⟩
  · rw [hl, Bool.true_and] at h; exact Or.inr ⟨rfl, h⟩

set_option maxHeartbeats 2000000 in
theorem implCtls_val (a : Option Addr) (l : List Ct) (cap : Nat) (w : World) (hz : l.length ≤ 1048576) (I : Controls w a l) :
    Calls Try.prog 40 #[.slice a l.length cap] w fun e w' => e = .returned (.bool (ctlB l)) ∧ Below w.heap.size w w' := by
  by_cases h2 : l.length ≤ 600
  · have hd : decide ((600 : Int) < (l.length : Int)) = false := decide_eq_false (by omega)
    have HO : Hid (ctlB l = ascB l) := ctl_short h2
    clear h2
    go_enter Try.func40, Try.ntmps40
    go_wp2
    go_loopw [3] (fun i wr => ∃ (k j : Nat), k ≤ l.length + 1 ∧ Hid (k = j + 1) ∧ i = .int .i64 (k : Int) ∧ Below w.heap.size w wr ∧ Hid (ascB (l.drop j) = ascB l)) (fun i _ => l.length + 1 - (intOf i).toNat)
    case atStart => exact ⟨1, 0, by omega, rfl, rfl, Below.refl _ _, rfl⟩
    case round =>
      obtain ⟨k, j, hk, HJ, rfl, LR, HP⟩ := hrel
      have hj := HJ.out
      by_cases hkn : k < l.length
      · obtain ⟨b, o, rfl, hlt, hc0, hc1, hc2, hc3, hc4, hc5⟩ := (I.on LR).at j (by omega)
        obtain ⟨b', o', e', -, hd0, hd1, hd2', hd3, hd4, hd5⟩ := (I.on LR).at k hkn
        simp only [Option.some.injEq, Addr.mk.injEq, and_true] at e'
        obtain ⟨rfl, rfl⟩ := e'
        have HS := cmp_ge ((asc_at hj hkn).symm.trans HP.out)
        have HC : Hid (∀ W : World, _) := fun W => cmpC_val (l[j]'(by omega)) l[k] W
        have hk1 : j < l.length := by omega
        have hji : IntKind.i64.wrap ((k : Int) - 1) = (j : Int) := by rw [IntKind.wrap_i64]; omega
        have hj3 : wrap64 ((k : Int) - 1) = (j : Int) := by unfold wrap64; omega
        have hj4 : (0 : Int) ≤ (j : Int) := by omega
        have hj5 : (j : Int) < (l.length : Int) := by omega
        clear HP
        generalize l[j]'_ = x at *
        generalize l[k] = y at *
        clear hj
        rcases HS with ⟨hv, HN⟩ | ⟨hv, HN⟩
        · have HN2 : Hid (ctlB l = false) := HO.out.trans HN
          clear HN
          go_wp2
          go_region_with (go_at_call 57; (with_reducible refine (HC.out _).mono ?_); rintro e w3 ⟨rfl, L3⟩)
          all_goals
            have L4 : Below w.heap.size w w3 := LR.drew.trans (L3.mono LR.size)
            go_wp2
            go_ret
            exact ⟨by rw [HN2.out] <;> rfl, L4⟩
        · have HN2 : Hid (ascB (l.drop k) = ascB l) := HN
          clear HN
          go_wp2
          go_region_with (go_at_call 57; (with_reducible refine (HC.out _).mono ?_); rintro e w3 ⟨rfl, L3⟩)
          all_goals
            have L4 : Below w.heap.size w w3 := LR.drew.trans (L3.mono LR.size)
            go_wp2
            go_roundw
            case rel => exact ⟨k + 1, k, by omega, rfl, by go_num, L4, HN2⟩
            case measure => simp [intOf]; omega
      · have hd2 : decide ((k : Int) < (l.length : Int)) = false := decide_eq_false (by omega)
        have HN : Hid (ctlB l = true) := HO.out.trans (HP.out.symm.trans (asc_end (by omega)))
        have hkn2 : ¬ k < l.length := hkn
        clear hj
        go_wp2
        go_ret
        exact ⟨by rw [HN.out] <;> rfl, LR⟩
  · have hd : decide ((600 : Int) < (l.length : Int)) = true := decide_eq_true (by omega)
    have HO : Hid (ctlB l = false) := ctl_long h2
    clear h2
    go_enter Try.func40, Try.ntmps40
    go_wp2
    go_ret
    exact ⟨by rw [HO.out] <;> rfl, Below.refl _ _⟩

theorem cen_no0 {o : Ctr} (h : ¬ 0 ≤ o.ve) : cenB o = false := by unfold cenB; rw [decide_eq_false h, Bool.false_and]
theorem cen_no1 {o : Ctr} (h : offB o.ol = false) : cenB o = false := by unfold cenB; rw [h, Bool.false_and, Bool.and_false]
theorem cen_is {o : Ctr} (h : 0 ≤ o.ve) (h1 : offB o.ol = true) : cenB o = ctlB o.sl := by unfold cenB; rw [decide_eq_true h, h1, Bool.true_and, Bool.true_and]
theorem cen_ctl {o : Ctr} (h : ctlB o.sl = false) : cenB o = false := by unfold cenB; rw [h, Bool.and_false, Bool.and_false]

set_option maxHeartbeats 2000000 in
theorem implCentre_val (x : Pl) (o : Ctr) (w : World) (hz : o.ol.length ≤ 1048576) (hz2 : o.sl.length ≤ 1048576) (I : In w x o) :
    Calls Try.prog 13 #[ceV x o] w fun e w' => e = .returned (.bool (cenB o)) ∧ Below w.heap.size w w' := by
  have N := new_below w (ceB x o 27)
  have IN := I.on N
  have HO : Hid (∀ W : World, Ints W x.a o.ol → _) := fun W h => implOff_val x.a o.ol x.c W hz h
  have HS : Hid (∀ W : World, Controls W x.b o.sl → _) := fun W h => implCtls_val x.b o.sl x.d W hz2 h
  by_cases h2 : 0 ≤ o.ve
  · have d2 : decide (0 ≤ o.ve) = true := decide_eq_true h2
    cases h3 : offB o.ol
    · have HV : Hid (cenB o = false) := cen_no1 h3
      rw [h3] at HO
      clear h2 h3 HS I
      go_enter Try.func13, Try.ntmps13
      go_wp2_with fail
      refine (HO.out _ IN.off).mono ?_
      rintro e w1 ⟨rfl, rfl⟩
      go_wp2
      go_ret
      exact ⟨by rw [HV.out] <;> rfl, N⟩
    · have HV : Hid (cenB o = ctlB o.sl) := cen_is h2 h3
      rw [h3] at HO
      clear h2 h3 I
      go_enter Try.func13, Try.ntmps13
      go_wp2_with fail
      refine (HO.out _ IN.off).mono ?_
      rintro e w1 ⟨rfl, rfl⟩
      go_wp2_with fail
      refine (HS.out _ IN.seen).mono ?_
      rintro e w2 ⟨rfl, L2⟩
      have K2 := join_below N L2
      go_wp2
      go_ret
      exact ⟨by rw [HV.out] <;> rfl, K2⟩
  · have d2 : decide (0 ≤ o.ve) = false := decide_eq_false h2
    have HV : Hid (cenB o = false) := cen_no0 h2
    clear h2 HO HS I
    go_enter Try.func13, Try.ntmps13
    go_wp2
    go_ret
    exact ⟨by rw [HV.out] <;> rfl, N⟩

set_option maxHeartbeats 4000000 in
theorem specCentre_val (x : Pl) (o : Ctr) (w : World) (hz : o.ol.length ≤ 1048576) (hz2 : o.sl.length ≤ 1048576) (I : In w x o) :
    Calls Try.prog 14 #[ceV x o] w fun e w' => e = .returned (.bool (cenB o)) ∧ Below w.heap.size w w' := by
  have N := new_below w (ceB x o 27)
  have m := heap_new w (ceB x o 27)
  have IN := I.on N
  have HO : Hid (∀ W : World, Ints W x.a o.ol → _) := fun W h => specOff_val x.a o.ol x.c W hz h
  clear I
  go_enter Try.func14, Try.ntmps14
  go_wp2
  go_loopw [3] (fun i wr => ∃ (k j : Nat), k ≤ o.sl.length + 1 ∧ Hid (k = j + 1) ∧ i = .int .i64 (k : Int) ∧ Below (w.alloc (ceB x o 27)).heap.size (w.alloc (ceB x o 27)) wr ∧ Hid (ascB (o.sl.drop j) = ascB o.sl)) (fun i _ => o.sl.length + 1 - (intOf i).toNat)
  case atStart => exact ⟨1, 0, by omega, rfl, rfl, Below.refl _ _, rfl⟩
  case round =>
    obtain ⟨k, j, hk, HJ, rfl, LR, HP⟩ := hrel
    have hj := HJ.out
    have m2 := kept LR (lt_of m) m
    have r0 : wr.cell? ⟨w.heap.size, 0, none⟩ = some (.int .i64 o.ve) := cell_at m2 0
    have r1 : wr.cell? ⟨w.heap.size, 1, none⟩ = some (.slice x.a o.ol.length x.c) := cell_at m2 1
    have r2 : wr.cell? ⟨w.heap.size, 2, none⟩ = some (.slice x.b o.sl.length x.d) := cell_at m2 2
    have K2 := join_below N LR
    by_cases hkn : k < o.sl.length
    · obtain ⟨b, u, eb, hlt, hc0, hc1, hc2, hc3, hc4, hc5⟩ := (IN.seen.on LR).at j (by omega)
      obtain ⟨b', u', e', -, hd0, hd1, hd2', hd3, hd4, hd5⟩ := (IN.seen.on LR).at k hkn
      rw [eb] at e' r2
      simp only [Option.some.injEq, Addr.mk.injEq, and_true] at e'
      obtain ⟨rfl, rfl⟩ := e'
      have HS := (asc_at hj hkn).symm.trans HP.out
      have HC : Hid (∀ W : World, _) := fun W => before_val (o.sl[j]'(by omega)) o.sl[k] W
      have hk1 : j < o.sl.length := by omega
      have hji : IntKind.i64.wrap ((k : Int) - 1) = (j : Int) := by rw [IntKind.wrap_i64]; omega
      have hj3 : wrap64 ((k : Int) - 1) = (j : Int) := by unfold wrap64; omega
      have hj4 : (0 : Int) ≤ (j : Int) := by omega
      have hj5 : (j : Int) < (o.sl.length : Int) := by omega
      clear HP
      generalize o.sl[j]'_ = p at *
      generalize o.sl[k] = q at *
      clear hj
      cases hv : ltC p q
      · rw [hv] at HS HC
        have HN : Hid (cenB o = false) := cen_ctl (ctl_down (HS.symm.trans (Bool.false_and _)))
        clear HS hv m2
        go_wp2
        go_region_with (go_at_call 41; (with_reducible refine (HC.out _).mono ?_); rintro e w3 ⟨rfl, L3⟩)
        all_goals
          have L4 : Below w.heap.size w w3 := K2.drew.trans (L3.mono K2.size)
          go_wp2
          go_ret
          exact ⟨by rw [HN.out] <;> rfl, L4⟩
      · rw [hv] at HS HC
        have HN : Hid (ascB (o.sl.drop k) = ascB o.sl) := (Bool.true_and _).symm.trans HS
        clear HS hv m2
        go_wp2
        go_region_with (go_at_call 41; (with_reducible refine (HC.out _).mono ?_); rintro e w3 ⟨rfl, L3⟩)
        all_goals
          have L4 : Below (w.alloc (ceB x o 27)).heap.size (w.alloc (ceB x o 27)) w3 := LR.drew.trans (L3.mono LR.size)
          go_wp2
          go_roundw
          case rel => exact ⟨k + 1, k, by omega, rfl, by go_num, L4, HN⟩
          case measure => simp [intOf]; omega
    · have hd2 : decide ((k : Int) < (o.sl.length : Int)) = false := decide_eq_false (by omega)
      have HN : Hid (ctlB o.sl = decide (o.sl.length ≤ 600)) := ctl_up (HP.out.symm.trans (asc_end (by omega)))
      clear HP hj
      have IR := IN.off.on LR
      by_cases h2 : 0 ≤ o.ve
      · have d2 : decide (0 ≤ o.ve) = true := decide_eq_true h2
        cases h3 : offB o.ol
        · have HV : Hid (cenB o = false) := cen_no1 h3
          rw [h3] at HO
          clear h2 h3 m2
          go_wp2_with fail
          refine (HO.out _ IR).mono ?_
          rintro e w1 ⟨rfl, D1⟩
          have K1 := join_below K2 (D1.below _)
          go_wp2
          go_ret
          exact ⟨by rw [HV.out] <;> rfl, K1⟩
        · have HV : Hid (cenB o = decide (o.sl.length ≤ 600)) := (cen_is h2 h3).trans HN.out
          rw [h3] at HO
          clear h2 h3
          have H2 : Hid (∀ W, Drawn wr W → W.cell? ⟨w.heap.size, 2, none⟩ = some (.slice x.b o.sl.length x.d)) := fun W D => cell_at (kept (D.below _) (lt_of m2) m2) 2
          clear m2
          go_wp2_with fail
          refine (HO.out _ IR).mono ?_
          rintro e w1 ⟨rfl, D1⟩
          have K1 := join_below K2 (D1.below _)
          have q2 := H2.out _ D1
          have e6 : decide ((o.sl.length : Int) ≤ 600) = decide (o.sl.length ≤ 600) := by simp only [decide_eq_decide]; omega
          go_wp2
          go_ret
          exact ⟨by rw [HV.out, ← e6] <;> rfl, K1⟩
      · have d2 : decide (0 ≤ o.ve) = false := decide_eq_false h2
        have HV : Hid (cenB o = false) := cen_no0 h2
        clear h2 HO m2
        go_wp2
        go_ret
        exact ⟨by rw [HV.out] <;> rfl, K2⟩

end Hn
end Go.Proofs.Ytbmfhdlbbaabgaa

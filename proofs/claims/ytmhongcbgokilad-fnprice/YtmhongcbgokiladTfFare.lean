/- Fare of the program and of its model. -/
import Derived.Test.YtmhongcbgokiladTfBase
import Derived.Test.YtmhongcbgokiladTfBaseS
import Derived.Test.YtmhongcbgokiladTfFee
namespace Go.Proofs.Ytmhongcbgokilad
namespace Tf
open Go.ChangeShapes Go.WideShapes Go.ChangeAt Go.RowKit
open Pk (new_below join_below cell_at heap_new frozen_at lt_of kept heap_old Drawn info_of)
set_option linter.unusedSimpArgs false
set_option linter.unusedVariables false

/-- A fare of a base at a rate. -/
def fareV (base rate : Int) : Int := (base * rate + 999) / 1000 * 10

/-- What Fare answers: the fare, and what is said. -/
def farA (x : Option Wy) (rate : Int) : Int := if rate < 0 then 0 else match x with | none => 0 | some m => if m.c > 10000000 ∨ fareV m.c rate > 10000000 then 0 else fareV m.c rate
def farS (x : Option Wy) (rate : Int) : Int := if rate < 0 then 2 else match x with | none => 1 | some m => if m.c > 10000000 ∨ fareV m.c rate > 10000000 then 3 else 0

theorem far_none {V : Int} (h : 0 ≤ V) : farA none V = 0 ∧ farS none V = 1 := ⟨by unfold farA; rw [if_neg (by omega)], by unfold farS; rw [if_neg (by omega)]⟩
theorem far_cap {V : Int} {m : Wy} (h : 0 ≤ V) (hc : m.c > 10000000 ∨ fareV m.c V > 10000000) : farA (some m) V = 0 ∧ farS (some m) V = 3 := ⟨by unfold farA; rw [if_neg (by omega)]; exact if_pos hc, by unfold farS; rw [if_neg (by omega)]; exact if_pos hc⟩
theorem far_ok {V : Int} {m : Wy} (h : 0 ≤ V) (hc : ¬ (m.c > 10000000 ∨ fareV m.c V > 10000000)) : farA (some m) V = fareV m.c V ∧ farS (some m) V = 0 := ⟨by unfold farA; rw [if_neg (by omega)]; exact if_neg hc, by unfold farS; rw [if_neg (by omega)]; exact if_neg hc⟩

/-- What Fare answers. -/
def FarR (l : List Ed) (a b V A S : Int) : Prop := (V = -1 ∧ A = 0 ∧ S = 2) ∨ (V ≠ -1 ∧ ∃ x, bw l a b x ∧ A = farA x V ∧ S = farS x V)

theorem far_one {l : List Ed} {a b V A S A' S' : Int} (h : FarR l a b V A S) (k : FarR l a b V A' S') : A = A' ∧ S = S' := by
  rcases h with ⟨h1, h2, h3⟩ | ⟨h1, x, h2, h3, h4⟩
  · rcases k with ⟨-, k2, k3⟩ | ⟨k1, -⟩
    · exact ⟨h2.trans k2.symm, h3.trans k3.symm⟩
    · exact (k1 h1).elim
  · rcases k with ⟨k1, -⟩ | ⟨-, y, k2, k3, k4⟩
    · exact (h1 k1).elim
    · obtain rfl := bw_one h2 k2
      exact ⟨h3.trans k3.symm, h4.trans k4.symm⟩

theorem rate_bd (c d : Int) : rateV c d = -1 ∨ (50 ≤ rateV c d ∧ rateV c d ≤ 160) := by
  unfold rateV
  repeat' split
  all_goals omega

theorem fare_bd {b r : Int} (h0 : 0 ≤ b) (h1 : b ≤ 402000000) (h2 : 0 ≤ r) (h3 : r ≤ 160) : 0 ≤ b * r ∧ b * r ≤ 64320000000 := by
  refine ⟨Int.mul_nonneg h0 h2, ?_⟩
  have : b * r ≤ 402000000 * 160 := Int.mul_le_mul h1 h3 h2 (by omega)
  omega

set_option maxHeartbeats 2000000 in
set_option maxRecDepth 100000 in
theorem implFare_val (ea : Option Addr) (l : List Ed) (ce : Nat) (a b c d : Int) (w : World) (hl : l.length ≤ maxLen) (I : Edges w ea l) :
    Calls Try.prog 36 #[.slice ea l.length ce, .int .i64 a, .int .i64 b, .int .i64 c, .int .i64 d] w fun e w' => ∃ A S, FarR l a b (rateV c d) A S ∧ e = .returned (.tuple #[.int .i64 A, .int .i64 S]) ∧ Below w.heap.size w w' := by
  have HR : Hid (∀ w, _) := fun w => implRate_val c d w
  have HBd : Hid (_) := rate_bd c d
  have HBa : Hid (∀ w' (h : Edges w' ea l), _) := fun w' h => implBase_val ea l ce a b w' hl h
  generalize rateV c d = V at *
  by_cases hv : V = -1
  · subst hv
    clear HBd
    go_enter Try.func36, Try.ntmps36
    go_wp2_with fail
    refine (HR.out _).mono ?_
    rintro e w1 ⟨rfl, rfl⟩
    go_wp2
    refine bodyPost_ret (results_tmp2 rfl _ _ _) rfl ?_
    exact ⟨0, 2, Or.inl ⟨rfl, rfl, rfl⟩, rfl, Below.refl _ _⟩
  · have hV := HBd.out.resolve_left hv
    have e1 : (V == -1) = false := beq_eq_false_iff_ne.2 hv
    have e1' : decide (V < 0) = false := decide_eq_false (by omega)
    have HV : Hid (V ≠ -1 ∧ 0 ≤ V) := ⟨hv, by omega⟩
    clear hv HBd
    go_enter Try.func36, Try.ntmps36
    go_wp2_with fail
    refine (HR.out _).mono ?_
    rintro e w1 ⟨rfl, rfl⟩
    go_wp2_with fail
    refine (HBa.out _ I).mono ?_
    rintro e w2 ⟨x, hx, rfl, hb, L2⟩
    have HX : Hid (bw l a b x) := hx
    clear hx HBa HR
    cases x with
    | none =>
      have HA : Hid (_) := far_none HV.out.2
      clear hb
      dsimp only [cOf, Option.isSome]
      go_wp2
      refine bodyPost_ret (results_tmp2 rfl _ _ _) rfl ?_
      exact ⟨0, 1, Or.inr ⟨HV.out.1, none, HX.out, HA.out.1.symm, HA.out.2.symm⟩, rfl, L2⟩
    | some m =>
      have hb0 : 0 ≤ m.c := hb.1
      have hb1 : m.c ≤ 402000000 := hb.2
      have hf := fare_bd hb0 hb1 (by omega : 0 ≤ V) hV.2
      have HA1 : Hid (_ → _) := far_cap (m := m) HV.out.2
      have HA2 : Hid (_ → _) := far_ok (m := m) HV.out.2
      dsimp only [cOf, Option.isSome]
      have hfd : fareV m.c V = (m.c * V + 999) / 1000 * 10 := rfl
      generalize fareV m.c V = FV at *
      generalize m.c = mc at *
      obtain ⟨P, hP⟩ : ∃ P, mc * V = P := ⟨_, rfl⟩
      rw [hP] at hf hfd
      have hw0 : IntKind.i64.wrap P = P := by rw [IntKind.wrap_i64]; omega
      obtain ⟨hf0, hf1⟩ := hf
      clear hb
      have HPu : Hid (∀ w, _) := fun w => partUp_val P 1000 w hf0 (by omega) (by omega) (by omega)
      have q1 : (P + 1000 - 1) / 1000 = (P + 999) / 1000 := by rw [show P + 1000 - 1 = P + 999 by omega]
      rw [q1] at HPu
      generalize (P + 999) / 1000 = Qq at *
      have hq10 : 10 * Qq = FV := by omega
      have hw1 : IntKind.i64.wrap FV = FV := by rw [IntKind.wrap_i64]; omega
      clear hfd q1
      by_cases h7 : mc > 10000000
      · have HE : Hid (_) := HA1.out (Or.inl h7)
        have e7 : decide (10000000 < mc) = true := decide_eq_true h7
        clear HA1 HA2
        go_wp2_with fail
        refine (HPu.out _).mono ?_
        rintro e w3 ⟨rfl, rfl⟩
        go_wp2
        refine bodyPost_ret (results_tmp2 rfl _ _ _) rfl ?_
        exact ⟨0, 3, Or.inr ⟨HV.out.1, some m, HX.out, HE.out.1.symm, HE.out.2.symm⟩, rfl, L2⟩
      · have e7 : decide (10000000 < mc) = false := decide_eq_false h7
        by_cases h8 : FV > 10000000
        · have HE : Hid (_) := HA1.out (Or.inr h8)
          have e8 : decide (10000000 < FV) = true := decide_eq_true h8
          clear HA1 HA2
          go_wp2_with fail
          refine (HPu.out _).mono ?_
          rintro e w3 ⟨rfl, rfl⟩
          go_wp2
          refine bodyPost_ret (results_tmp2 rfl _ _ _) rfl ?_
          exact ⟨0, 3, Or.inr ⟨HV.out.1, some m, HX.out, HE.out.1.symm, HE.out.2.symm⟩, rfl, L2⟩
        · have HE : Hid (_) := HA2.out (fun h => h.elim h7 h8)
          have e8 : decide (10000000 < FV) = false := decide_eq_false h8
          clear HA1 HA2
          go_wp2_with fail
          refine (HPu.out _).mono ?_
          rintro e w3 ⟨rfl, rfl⟩
          go_wp2
          refine bodyPost_ret (results_tmp2 rfl _ _ _) rfl ?_
          exact ⟨FV, 0, Or.inr ⟨HV.out.1, some m, HX.out, HE.out.1.symm, HE.out.2.symm⟩, rfl, L2⟩

set_option maxHeartbeats 2000000 in
set_option maxRecDepth 100000 in
theorem specFare_val (ea : Option Addr) (l : List Ed) (ce : Nat) (a b c d : Int) (w : World) (hl : l.length ≤ maxLen) (I : Edges w ea l) :
    Calls Try.prog 37 #[.slice ea l.length ce, .int .i64 a, .int .i64 b, .int .i64 c, .int .i64 d] w fun e w' => ∃ A S, FarR l a b (rateV c d) A S ∧ e = .returned (.tuple #[.int .i64 A, .int .i64 S]) ∧ Below w.heap.size w w' := by
  have HR : Hid (∀ w, _) := fun w => specRate_val c d w
  have HBd : Hid (_) := rate_bd c d
  have HBa : Hid (∀ w' (h : Edges w' ea l), _) := fun w' h => specBase_val ea l ce a b w' hl h
  generalize rateV c d = V at *
  by_cases hv : V = -1
  · subst hv
    clear HBd
    go_enter Try.func37, Try.ntmps37
    go_wp2_with fail
    refine (HR.out _).mono ?_
    rintro e w1 ⟨rfl, L1⟩
    go_wp2
    refine bodyPost_ret (results_tmp2 rfl _ _ _) rfl ?_
    exact ⟨0, 2, Or.inl ⟨rfl, rfl, rfl⟩, rfl, L1⟩
  · have hV := HBd.out.resolve_left hv
    have e1 : (V == -1) = false := beq_eq_false_iff_ne.2 hv
    have e1' : decide (V < 0) = false := decide_eq_false (by omega)
    have HV : Hid (V ≠ -1 ∧ 0 ≤ V) := ⟨hv, by omega⟩
    clear hv HBd
    go_enter Try.func37, Try.ntmps37
    go_wp2_with fail
    refine (HR.out _).mono ?_
    rintro e w1 ⟨rfl, L1⟩
    go_wp2_with fail
    refine (HBa.out _ (I.on L1)).mono ?_
    rintro e w2 ⟨x, hx, rfl, hb, L2⟩
    have HX : Hid (bw l a b x) := hx
    clear hx HBa HR
    cases x with
    | none =>
      have HA : Hid (_) := far_none HV.out.2
      clear hb
      dsimp only [cOf, Option.isSome]
      go_wp2
      refine bodyPost_ret (results_tmp2 rfl _ _ _) rfl ?_
      exact ⟨0, 1, Or.inr ⟨HV.out.1, none, HX.out, HA.out.1.symm, HA.out.2.symm⟩, rfl, join_below L1 L2⟩
    | some m =>
      have hb0 : 0 ≤ m.c := hb.1
      have hb1 : m.c ≤ 402000000 := hb.2
      have hf := fare_bd hb0 hb1 (by omega : 0 ≤ V) hV.2
      have HA1 : Hid (_ → _) := far_cap (m := m) HV.out.2
      have HA2 : Hid (_ → _) := far_ok (m := m) HV.out.2
      dsimp only [cOf, Option.isSome]
      have hfd : fareV m.c V = (m.c * V + 999) / 1000 * 10 := rfl
      generalize fareV m.c V = FV at *
      generalize m.c = mc at *
      obtain ⟨P, hP⟩ : ∃ P, mc * V = P := ⟨_, rfl⟩
      rw [hP] at hf hfd
      have hw0 : IntKind.i64.wrap P = P := by rw [IntKind.wrap_i64]; omega
      obtain ⟨hf0, hf1⟩ := hf
      clear hb
      obtain ⟨Qq, hQ⟩ : ∃ Qq, (P + 999) / 1000 = Qq := ⟨_, rfl⟩
      rw [hQ] at hfd
      have hq10 : Qq * 10 = FV := by omega
      have hQb : 0 ≤ Qq ∧ Qq ≤ 100000000 := by omega
      have hw1 : IntKind.i64.wrap FV = FV := by rw [IntKind.wrap_i64]; omega
      clear hfd
      by_cases h7 : mc > 10000000
      · have HE : Hid (_) := HA1.out (Or.inl h7)
        have e7 : decide (10000000 < mc) = true := decide_eq_true h7
        clear HA1 HA2
        go_wp2
        refine bodyPost_ret (results_tmp2 rfl _ _ _) rfl ?_
        exact ⟨0, 3, Or.inr ⟨HV.out.1, some m, HX.out, HE.out.1.symm, HE.out.2.symm⟩, rfl, join_below L1 L2⟩
      · have e7 : decide (10000000 < mc) = false := decide_eq_false h7
        by_cases h8 : FV > 10000000
        · have HE : Hid (_) := HA1.out (Or.inr h8)
          have e8 : decide (10000000 < FV) = true := decide_eq_true h8
          clear HA1 HA2
          go_wp2
          refine bodyPost_ret (results_tmp2 rfl _ _ _) rfl ?_
          exact ⟨0, 3, Or.inr ⟨HV.out.1, some m, HX.out, HE.out.1.symm, HE.out.2.symm⟩, rfl, join_below L1 L2⟩
        · have HE : Hid (_) := HA2.out (fun h => h.elim h7 h8)
          have e8 : decide (10000000 < FV) = false := decide_eq_false h8
          clear HA1 HA2
          go_wp2
          refine bodyPost_ret (results_tmp2 rfl _ _ _) rfl ?_
          exact ⟨FV, 0, Or.inr ⟨HV.out.1, some m, HX.out, HE.out.1.symm, HE.out.2.symm⟩, rfl, join_below L1 L2⟩


end Tf
end Go.Proofs.Ytmhongcbgokilad

/- Texts laid into one, in their order: EaLaw. -/
import Derived.Test.YtfoccmhmgdengaaManyAFnEarliest
import Derived.Test.YtfoccmhmgdengaaManyBFnEarliest
import Derived.Test.YtfoccmhmgdengaaManyCFnEarliest
import Derived.Deep.CutRange
import Derived.BigQuiet
import Derived.Lib.QuietBelow
/- The law of Earliest: over every drawn list of lines, two stations, a day and a minute. -/
namespace Go.Proofs.Ytfoccmhmgdengaa
namespace Rd
open Go.ChangeShapes Go.WideShapes Go.ChangeAt Go.RowKit
open Pk (new_below join_below cell_at heap_new frozen_at lt_of kept heap_old info_of own_form)
open Cur (Bytes)
open Tn (Tr Hd St okB runsB dayBit inB z0 fnd cutB cutA cutZ hopB hopD hopA linesB rT Trains Stops Nums)
set_option linter.unusedSimpArgs false
set_option linter.unusedVariables false

theorem told_not {ts : List Tr} {fr tt day mi z : Int} {rs : List Ri} {b : Bool} (T : Told ts fr tt day mi rs z b) (h : earB ts fr tt day mi = false) : b = false := by
  rcases T with ⟨rfl, e, -⟩ | ⟨rfl, -⟩
  · rw [h] at e; cases e
  · rfl

theorem told_in {ts : List Tr} {fr tt day mi z : Int} {rs : List Ri} (T : Told ts fr tt day mi rs z true) : (0 ≤ day ∧ day ≤ 90000) ∧ (0 ≤ mi ∧ mi ≤ 1439) := by
  rcases T with ⟨-, e, -⟩ | ⟨h, -⟩
  · unfold earB at e
    simp only [Bool.and_eq_true] at e
    exact ⟨Tn.inB_yes e.2.2.1, Tn.inB_yes e.2.2.2⟩
  · cases h

theorem found_is {w w' : World} {r : Option Tr} {e : Ending} (h : Tn.Found w w' r e) (hr : r.isSome = true) (hl : 0 < (rT r).l.length) : ∃ sb sc, e = .returned (.tuple #[Tn.trV (rT r).h (some ⟨sb, 0, none⟩) (rT r).l.length sc, .bool true]) ∧ sb < w'.heap.size ∧ Stops w' (some ⟨sb, 0, none⟩) (rT r).l := by
  cases r with
  | none => cases hr
  | some t =>
    obtain ⟨v, he, ho⟩ := h
    obtain ⟨g, c, rfl, hg, hlt⟩ := ho.form hl
    exact ⟨g, c, he, hlt, Tn.stops_own ho⟩

theorem at_zero {w : World} {base c : Nat} {a : Option Addr} {l : List Ri} (h0 : 0 < l.length) (O : RideAt w base a c l) : ∃ g, a = some ⟨g, 0, none⟩ ∧ Rides w (some ⟨g, 0, none⟩) l := by
  rcases O.old with h | ⟨g, cs, h1, -, -, h2⟩
  · omega
  · exact ⟨g, h1, h2⟩

theorem ride_cells {w : World} {g : Nat} {l : List Ri} (R : Rides w (some ⟨g, 0, none⟩) l) (k : Nat) (r : Ri) (h : l[k]? = some r) : w.cell? ⟨g, k * 4, none⟩ = some (.int .i64 r.tr) ∧ w.cell? ⟨g, k * 4 + 1, none⟩ = some (.int .i64 r.dy) ∧ w.cell? ⟨g, k * 4 + 2, none⟩ = some (.int .i64 r.fr) ∧ w.cell? ⟨g, k * 4 + 3, none⟩ = some (.int .i64 r.to) := by
  obtain ⟨hk, rfl⟩ := List.getElem?_eq_some_iff.1 h
  obtain ⟨b, o, e, -, c0, c1, c2, c3⟩ := R.at k hk
  simp only [Option.some.injEq, Addr.mk.injEq, and_true] at e
  obtain ⟨rfl, rfl⟩ := e
  rw [Nat.zero_add] at c0 c1 c2 c3
  exact ⟨c0, c1, c2, c3⟩

theorem stop_dp {w : World} {g i : Nat} {l : List St} {p : Int} (S : Stops w (some ⟨g, 0, none⟩) l) (h : ∃ s, l[i]? = some s ∧ s.dp = p) : w.cell? ⟨g, i * 3 + 2, none⟩ = some (.int .i64 p) := by
  obtain ⟨s, h1, rfl⟩ := h
  obtain ⟨hk, rfl⟩ := List.getElem?_eq_some_iff.1 h1
  obtain ⟨b, o, e, -, c0, c1, c2⟩ := S.at i hk
  simp only [Option.some.injEq, Addr.mk.injEq, and_true] at e
  obtain ⟨rfl, rfl⟩ := e
  rw [Nat.zero_add] at c2
  exact c2

theorem stop_ar {w : World} {g i : Nat} {l : List St} {p : Int} (S : Stops w (some ⟨g, 0, none⟩) l) (h : ∃ s, l[i]? = some s ∧ s.ar = p) : w.cell? ⟨g, i * 3 + 1, none⟩ = some (.int .i64 p) := by
  obtain ⟨s, h1, rfl⟩ := h
  obtain ⟨hk, rfl⟩ := List.getElem?_eq_some_iff.1 h1
  obtain ⟨b, o, e, -, c0, c1, c2⟩ := S.at i hk
  simp only [Option.some.injEq, Addr.mk.injEq, and_true] at e
  obtain ⟨rfl, rfl⟩ := e
  rw [Nat.zero_add] at c1
  exact c1

theorem some_pos {l : List St} {i : Nat} {p : Int} {f : St → Int} (h : ∃ s, l[i]? = some s ∧ f s = p) : 0 < l.length := by
  obtain ⟨s, h1, -⟩ := h
  have := (List.getElem?_eq_some_iff.1 h1).1
  omega

theorem some_lt {l : List St} {i : Nat} {p : Int} {f : St → Int} (h : ∃ s, l[i]? = some s ∧ f s = p) : (i : Int) < (l.length : Int) := by
  obtain ⟨s, h1, -⟩ := h
  have := (List.getElem?_eq_some_iff.1 h1).1
  omega

theorem trains_some {w : World} {a : Option Addr} {ts : List Tr} (T : Trains w a ts) (h : 0 < ts.length) : ∃ g o, a = some ⟨g, o, none⟩ := by
  obtain ⟨b, o, -, -, -, e, -⟩ := T.at 0 h
  exact ⟨b, o, e⟩

theorem train_at {w : World} {g o : Nat} {ts : List Tr} (T : Trains w (some ⟨g, o, none⟩) ts) (k : Nat) (hk : k < ts.length) : ∃ bi oi ci, w.cell? ⟨g, o + k * 5, none⟩ = some (.int .i64 ts[k].h.id) ∧ w.cell? ⟨g, o + k * 5 + 1, none⟩ = some (.int .i64 ts[k].h.dy) ∧ w.cell? ⟨g, o + k * 5 + 2, none⟩ = some (.int .i64 ts[k].h.co) ∧ w.cell? ⟨g, o + k * 5 + 3, none⟩ = some (.int .i64 ts[k].h.se) ∧ w.cell? ⟨g, o + k * 5 + 4, none⟩ = some (.slice (some ⟨bi, oi, none⟩) ts[k].l.length ci) ∧ Stops w (some ⟨bi, oi, none⟩) ts[k].l := by
  obtain ⟨b', o', bi, oi, ci, e, -, c0, c1, c2, c3, c4, S⟩ := T.at k hk
  simp only [Option.some.injEq, Addr.mk.injEq, and_true] at e
  obtain ⟨rfl, rfl⟩ := e
  exact ⟨bi, oi, ci, c0, c1, c2, c3, c4, S⟩

theorem stop_at {w : World} {g o : Nat} {l : List St} (S : Stops w (some ⟨g, o, none⟩) l) (k : Nat) (hk : k < l.length) : w.cell? ⟨g, o + k * 3, none⟩ = some (.int .i64 l[k].st) ∧ w.cell? ⟨g, o + k * 3 + 1, none⟩ = some (.int .i64 l[k].ar) ∧ w.cell? ⟨g, o + k * 3 + 2, none⟩ = some (.int .i64 l[k].dp) := by
  obtain ⟨b', o', e, -, c0, c1, c2⟩ := S.at k hk
  simp only [Option.some.injEq, Addr.mk.injEq, and_true] at e
  obtain ⟨rfl, rfl⟩ := e
  exact ⟨c0, c1, c2⟩

theorem cell_lt {w : World} {p : Addr} {v : Value} (h : w.cell? p = some v) : p.block < w.heap.size := by
  cases hb : w.heap[p.block]? with
  | none => simp [World.cell?, hb] at h
  | some o => exact lt_of hb

theorem drewN_below (w : World) (n : Nat) : Below w.heap.size w (w.drewN n) := ⟨rfl, rfl, rfl, Nat.le_refl _, fun _ _ => rfl⟩

theorem fnd_len {ts : List Tr} {id : Int} {t : Tr} {m : Nat} (h : fnd ts id = some t) (hs : ∀ t ∈ ts, t.l.length ≤ m) : t.l.length ≤ m := hs t (List.mem_of_find?_eq_some h)

theorem wf_small {x : Int} (h1 : 1 ≤ x) (h2 : x ≤ 8) : Em.WfI x := wf_st h1 (by omega)

set_option maxRecDepth 100000 in
set_option maxHeartbeats 64000000 in
theorem earliest_law (a : Option Addr) (n cap : Nat) (w1 : World) (hb : n ≤ 1048576) (BY : Bytes w1 a n) :
    Calls Try.prog 3 #[.slice a n cap] w1 fun e w' => e = .returned (.bool true) ∧ Below w1.heap.size w1 w' := by
  go_enter Try.func3, Try.ntmps3
  go_wp2_with fail
  refine (Cur.big_no a n cap _ hb).mono ?_
  rintro e w1 ⟨rfl, rfl⟩
  go_wp2_with fail
  refine (drawEarliest a n cap _ hb BY).mono ?_
  rintro e w2 ⟨⟨ts, va, vc, fr, tt, day, mi, rfl, T2, hl4, hs5, hfr, htt⟩, L2⟩
  have HLN : Hid (ts.length ≤ 4) := hl4
  have HST : Hid (∀ t ∈ ts, 2 ≤ t.l.length ∧ t.l.length ≤ 5) := hs5
  have hn : ts.length ≤ 1048576 := by omega
  have hs : ∀ i (h : i < ts.length), ts[i].l.length ≤ 1048576 := fun i h => by have := hs5 _ (List.getElem_mem h); omega
  have HIE : Hid (∀ W, Trains W va ts → _) := fun W T => implEarliest_val ts va vc fr tt day mi W hn hs (wf_small hfr.1 hfr.2) (wf_small htt.1 htt.2) T
  have HSE : Hid (∀ W, Trains W va ts → _) := fun W T => specEarliest_val ts va vc fr tt day mi W hn hs T
  have HIF : Hid (∀ (id : Int) (W : World), Trains W va ts → _) := fun id W T => Tn.implFind_val va ts vc id W hn hs T
  have HIR : Hid (∀ (b : Option Addr) (rs : List Ri) (c2 : Nat) (W : World), rs.length ≤ 6 → Trains W va ts → Rides W b rs → _) := fun b rs c2 W h T R => Tn.implRides_val va ts vc b rs c2 W hn hs (by unfold maxLen; omega) T R
  have HSL : Hid (∀ W, Trains W va ts → _) := fun W T => Tn.specLines_val va ts vc W (by unfold maxLen; omega) (fun i h => by have := hs i h; unfold maxLen; omega) T
  clear hl4 hs5 hfr htt hn hs BY
  go_wp2_with fail
  refine (HIE.out _ T2).mono ?_
  rintro e w3 ⟨ga, gc, rs, z, b, rfl, hT, hl6, R3, L3⟩
  have G3 := R3.rides
  have RR3 := R3
  have T3 := T2.on L3
  have K3 := join_below L2 L3
  clear T2 L2 L3 HIE R3
  go_wp2_with fail
  refine (HSE.out _ T3).mono ?_
  rintro e w4 ⟨ha, hc, rs', z', b', rfl, hT', -, R4, L4⟩
  obtain ⟨rfl, rfl, rfl⟩ := told_one hT hT'
  have S4 := R4.rides
  have G4 := G3.on L4
  have RR4 := RR3.on L4
  have T4 := T3.on L4
  have K4 := join_below K3 L4
  have HTO : Hid (Told ts fr tt day mi rs z b) := hT
  have HSR : Hid (Calls Try.prog 9 _ _ _) := sameRides_same ga ha rs gc hc w4 (by omega) G4 S4
  clear T3 K3 L4 HSE R4 G3 RR3 hT hT' S4
  go_wp2_with fail
  try (have hbn : (b != b) = false := by simp)
  refine HSR.out.mono ?_
  rintro e w5 ⟨rfl, L5⟩
  have R5 := RR4.on L5
  have T5 := T4.on L5
  have K5 := join_below K4 L5
  clear G4 RR4 T4 K4 L5 HSR
  go_upto_if 82 with fail
  go_cut [] from 14 (fun wc => Below w1.heap.size w1 wc ∧ Trains wc va ts)
  case first => as_aux_lemma =>
    cases b
    · go_wp2
      go_meet
      case rel => exact ⟨K5, T5⟩
    · obtain ⟨hd1, hmm⟩ := told_in HTO.out
      obtain ⟨r0, r1, t0, t1, i, j, zz0, aa1, dp0, ar1, OK⟩ := told_is HTO.out hd1.2
      have hlen := OK.len
      obtain ⟨g, hgg, G6⟩ := at_zero (by omega) R5
      subst hgg
      have HOK : Hid (OkI ts fr tt day mi z rs r0 r1 t0 t1 i j zz0 aa1 dp0 ar1) := OK
      obtain ⟨q0, hq0⟩ : ∃ q, r0.to = q := ⟨_, rfl⟩
      obtain ⟨f1, hf1⟩ : ∃ q, r1.fr = q := ⟨_, rfl⟩
      obtain ⟨d0, hd0⟩ : ∃ q, r0.dy = q := ⟨_, rfl⟩
      obtain ⟨d1, hd1'⟩ : ∃ q, r1.dy = q := ⟨_, rfl⟩
      obtain ⟨n0, hn0⟩ : ∃ q, r0.tr = q := ⟨_, rfl⟩
      obtain ⟨n1, hn1⟩ : ∃ q, r1.tr = q := ⟨_, rfl⟩
      have HRI : Hid (∀ W, Rides W (some ⟨g, 0, none⟩) rs → (W.cell? ⟨g, 0, none⟩ = some (.int .i64 n0) ∧ W.cell? ⟨g, 1, none⟩ = some (.int .i64 d0) ∧ W.cell? ⟨g, 2, none⟩ = some (.int .i64 fr) ∧ W.cell? ⟨g, 3, none⟩ = some (.int .i64 q0)) ∧ (W.cell? ⟨g, (rs.length - 1) * 4, none⟩ = some (.int .i64 n1) ∧ W.cell? ⟨g, (rs.length - 1) * 4 + 1, none⟩ = some (.int .i64 d1) ∧ W.cell? ⟨g, (rs.length - 1) * 4 + 2, none⟩ = some (.int .i64 f1) ∧ W.cell? ⟨g, (rs.length - 1) * 4 + 3, none⟩ = some (.int .i64 tt))) := fun W R => by
        have h0 := ride_cells R 0 r0 HOK.out.one
        have h9 := ride_cells R (rs.length - 1) r1 HOK.out.last
        rw [Nat.zero_mul, Nat.zero_add, Nat.zero_add, Nat.zero_add, HOK.out.frm, hn0, hd0, hq0] at h0
        rw [HOK.out.too, hn1, hd1', hf1] at h9
        exact ⟨h0, h9⟩
      have HF0 : Hid (∀ W, Trains W va ts → Calls Try.prog 10 #[.slice va ts.length vc, .int .i64 n0] W fun e w' => (∃ sb sc, e = .returned (.tuple #[Tn.trV t0.h (some ⟨sb, 0, none⟩) t0.l.length sc, .bool true]) ∧ sb < w'.heap.size ∧ Stops w' (some ⟨sb, 0, none⟩) t0.l) ∧ Below W.heap.size W w') := fun W T => by
        refine (HIF.out n0 W T).mono fun e w' h => ⟨?_, h.2⟩
        have h2 := h.1
        rw [← hn0, HOK.out.f0] at h2
        exact found_is h2 rfl (some_pos HOK.out.s0)
      have HF1 : Hid (∀ W, Trains W va ts → Calls Try.prog 10 #[.slice va ts.length vc, .int .i64 n1] W fun e w' => (∃ sb sc, e = .returned (.tuple #[Tn.trV t1.h (some ⟨sb, 0, none⟩) t1.l.length sc, .bool true]) ∧ sb < w'.heap.size ∧ Stops w' (some ⟨sb, 0, none⟩) t1.l) ∧ Below W.heap.size W w') := fun W T => by
        refine (HIF.out n1 W T).mono fun e w' h => ⟨?_, h.2⟩
        have h2 := h.1
        rw [← hn1, HOK.out.f1] at h2
        exact found_is h2 rfl (some_pos HOK.out.s1)
      have HRO0 : Hid (∀ W, Trains W va ts → Rides W (some ⟨g, 0, none⟩) rs → Calls Try.prog 12 #[.slice va ts.length vc, .slice (some ⟨g, 0, none⟩) rs.length gc] W fun e w' => e = .returned (.bool true) ∧ Below W.heap.size W w') := fun W T R => by
        have := HIR.out (some ⟨g, 0, none⟩) rs gc W hlen.2 T R
        rw [HOK.out.can] at this
        exact this
      have hx0 : t0.l.length ≤ maxLen := Nat.le_trans (fnd_len HOK.out.f0 fun t ht => (HST.out t ht).2) (by unfold maxLen; omega)
      have hx1 : t1.l.length ≤ maxLen := Nat.le_trans (fnd_len HOK.out.f1 fun t ht => (HST.out t ht).2) (by unfold maxLen; omega)
      have HC0 : Hid (∀ (sb sc : Nat) (W : World), Stops W (some ⟨sb, 0, none⟩) t0.l → Calls Try.prog 11 #[Tn.trV t0.h (some ⟨sb, 0, none⟩) t0.l.length sc, .int .i64 fr, .int .i64 q0] W fun e w' => e = .returned (.tuple #[.int .i64 (i : Int), .int .i64 zz0, .bool true]) ∧ Below W.heap.size W w') := fun sb sc W S => by
        have := Tn.implCut_val t0.h fr q0 (some ⟨sb, 0, none⟩) t0.l sc W hx0 S
        rw [← hq0, HOK.out.c0] at this
        rw [← hq0]
        exact this
      have HC1 : Hid (∀ (sb sc : Nat) (W : World), Stops W (some ⟨sb, 0, none⟩) t1.l → Calls Try.prog 11 #[Tn.trV t1.h (some ⟨sb, 0, none⟩) t1.l.length sc, .int .i64 f1, .int .i64 tt] W fun e w' => e = .returned (.tuple #[.int .i64 aa1, .int .i64 (j : Int), .bool true]) ∧ Below W.heap.size W w') := fun sb sc W S => by
        have := Tn.implCut_val t1.h f1 tt (some ⟨sb, 0, none⟩) t1.l sc W hx1 S
        rw [← hf1, HOK.out.c1] at this
        rw [← hf1]
        exact this
      have HS0 : Hid (∀ (sb : Nat) (W : World), Stops W (some ⟨sb, 0, none⟩) t0.l → W.cell? ⟨sb, i * 3 + 2, none⟩ = some (.int .i64 dp0)) := fun sb W S => stop_dp S HOK.out.s0
      have HS1 : Hid (∀ (sb : Nat) (W : World), Stops W (some ⟨sb, 0, none⟩) t1.l → W.cell? ⟨sb, j * 3 + 1, none⟩ = some (.int .i64 ar1)) := fun sb W S => stop_ar S HOK.out.s1
      have hbd := OK.bd
      rw [hd0, hd1'] at hbd
      have hle := OK.le
      have heq := OK.eq
      rw [hd0] at hle
      rw [hd1'] at heq
      have hw0 : IntKind.i64.wrap (1440 * d0) = 1440 * d0 := by rw [IntKind.wrap_i64]; omega
      have hw1 : IntKind.i64.wrap (1440 * d0 + dp0) = 1440 * d0 + dp0 := by rw [IntKind.wrap_i64]; omega
      have hw2 : IntKind.i64.wrap (1440 * d1) = 1440 * d1 := by rw [IntKind.wrap_i64]; omega
      have hw3 : IntKind.i64.wrap (1440 * d1 + ar1) = z := by rw [IntKind.wrap_i64]; omega
      have hw4 : IntKind.i64.wrap (1440 * day) = 1440 * day := by rw [IntKind.wrap_i64]; omega
      have hw5 : IntKind.i64.wrap (1440 * day + mi) = 1440 * day + mi := by rw [IntKind.wrap_i64]; omega
      have hlt : decide (1440 * d0 + dp0 < 1440 * day + mi) = false := decide_eq_false (by omega)
      have HLN6 : Hid (1 ≤ rs.length ∧ rs.length ≤ 6) := hlen
      have HI3 : Hid ((i : Int) < (t0.l.length : Int) ∧ (j : Int) < (t1.l.length : Int)) := ⟨some_lt OK.s0, some_lt OK.s1⟩
      obtain ⟨k0, k9⟩ := HRI.out _ G6
      have k00 := k0.1
      have hlp : (0 : Int) < (rs.length : Int) := by omega
      have hlpn : 0 < rs.length := by omega
      obtain ⟨ti, hti⟩ : ∃ x, t0.h.id = x := ⟨_, rfl⟩
      clear OK hbd hle heq hmm hd1 hq0 hf1 hd0 hd1' hn0 hn1 hx0 hx1 HOK HIR HIF k0 k9 R5 hti
      go_wp2_with fail
      refine (HF0.out _ T5).mono ?_
      rintro e w6 ⟨⟨sb, sc, rfl, hsb, S6⟩, L6⟩
      have N7 := new_below w6 (.cells #[.int .i64 t0.h.id, .int .i64 t0.h.dy, .int .i64 t0.h.co, .int .i64 t0.h.se, .slice (some ⟨sb, 0, none⟩) t0.l.length sc] 33)
      have x7 := heap_new w6 (.cells #[.int .i64 t0.h.id, .int .i64 t0.h.dy, .int .i64 t0.h.co, .int .i64 t0.h.se, .slice (some ⟨sb, 0, none⟩) t0.l.length sc] 33)
      have L7 := join_below L6 N7
      have T7 := T5.on L7
      have K7 := join_below K5 L7
      have G7 := G6.on L7
      have S7 := S6.on N7
      clear T5 K5 L6 L7 N7 S6 G6 HF0 k00 hsb
      go_upto_region 10 with fail
      generalize w6.alloc (.cells #[.int .i64 t0.h.id, .int .i64 t0.h.dy, .int .i64 t0.h.co, .int .i64 t0.h.se, .slice (some ⟨sb, 0, none⟩) t0.l.length sc] 33) = w7 at *
      generalize w6.heap.size = P14 at *
      have K10 : Below w7.heap.size w7 w7.drew := (Below.refl _ _).drew
      have HK10 : Hid (∀ W, Below w7.heap.size w7 W → W.heap[P14]? = some (.cells #[.int .i64 t0.h.id, .int .i64 t0.h.dy, .int .i64 t0.h.co, .int .i64 t0.h.se, .slice (some ⟨sb, 0, none⟩) t0.l.length sc] 33) ∧ W.cell? ⟨g, 2, none⟩ = some (.int .i64 fr) ∧ W.cell? ⟨g, 3, none⟩ = some (.int .i64 q0)) := fun W K => ⟨kept K (lt_of x7) x7, (HRI.out W (G7.on K)).1.2.2.1, (HRI.out W (G7.on K)).1.2.2.2⟩
      have HS10 : Hid (∀ W : World, (W.heap[P14]? = some (.cells #[.int .i64 t0.h.id, .int .i64 t0.h.dy, .int .i64 t0.h.co, .int .i64 t0.h.se, .slice (some ⟨sb, 0, none⟩) t0.l.length sc] 33) ∧ W.cell? ⟨g, 2, none⟩ = some (.int .i64 fr) ∧ W.cell? ⟨g, 3, none⟩ = some (.int .i64 q0)) → W.cell? ⟨P14, 0, none⟩ = some (.int .i64 t0.h.id) ∧ W.cell? ⟨P14, 1, none⟩ = some (.int .i64 t0.h.dy) ∧ W.cell? ⟨P14, 2, none⟩ = some (.int .i64 t0.h.co) ∧ W.cell? ⟨P14, 3, none⟩ = some (.int .i64 t0.h.se) ∧ W.cell? ⟨P14, 4, none⟩ = some (.slice (some ⟨sb, 0, none⟩) t0.l.length sc) ∧ W.cell? ⟨g, 2, none⟩ = some (.int .i64 fr) ∧ W.cell? ⟨g, 3, none⟩ = some (.int .i64 q0)) := fun W q => ⟨cell_at q.1 0, cell_at q.1 1, cell_at q.1 2, cell_at q.1 3, cell_at q.1 4, q.2.1, q.2.2⟩
      have HCC : Hid (∀ W, Below w7.heap.size w7 W → _) := fun W K => HC0.out sb sc W (S7.on K)
      clear HC0
      refine wp_region_held_drew (S := (fun w' => w'.heap[P14]? = some (.cells #[.int .i64 t0.h.id, .int .i64 t0.h.dy, .int .i64 t0.h.co, .int .i64 t0.h.se, .slice (some ⟨sb, 0, none⟩) t0.l.length sc] 33) ∧ w'.cell? ⟨g, 2, none⟩ = some (.int .i64 fr) ∧ w'.cell? ⟨g, 3, none⟩ = some (.int .i64 q0))) (by kernel_rfl) ?_ (fun hHeld => ?_)
      · exact HK10.out _ K10
      refine wpAnyH_take (i := 0) (v := .agg #[.int .i64 t0.h.id, .int .i64 t0.h.dy, .int .i64 t0.h.co, .int .i64 t0.h.se, .slice (some ⟨sb, 0, none⟩) t0.l.length sc]) rfl (by kernel_rfl) (by kernel_rfl) (by kernel_rfl) (fun _ _ _ h => h) (Or.inl ⟨by kernel_rfl, fun w hSw => by first | (obtain ⟨z0, z1, z2, z3, z4, z5, z6⟩ := HS10.out _ hSw; go_simp; done) | (go_simp; done) | (dsimp only at hSw; obtain ⟨hS0, hS1, hS2⟩ := hSw; go_simp; done) | rfl⟩) (by assumption) ?_
      simp only [Act.put, List.getElem_toArray, List.getElem_cons_succ, List.getElem_cons_zero, List.setIfInBounds_toArray, List.set_cons_succ, List.set_cons_zero]
      refine wpAnyH_take (i := 1) (v := .slice (some ⟨g, 0, none⟩) rs.length gc) rfl (by kernel_rfl) (by kernel_rfl) (by kernel_rfl) (fun _ _ _ h => h) (Or.inl ⟨by kernel_rfl, fun w hSw => by first | (go_simp; done) | (dsimp only at hSw; obtain ⟨hS0, hS1, hS2⟩ := hSw; go_simp; done) | rfl⟩) (by assumption) ?_
      simp only [Act.put, List.getElem_toArray, List.getElem_cons_succ, List.getElem_cons_zero, List.setIfInBounds_toArray, List.set_cons_succ, List.set_cons_zero]
      refine wpAnyH_take (i := 2) (v := .pointer (some ⟨g, 0, none⟩)) rfl (by kernel_rfl) (by kernel_rfl) (by kernel_rfl) (fun _ _ _ h => h) (Or.inl ⟨by kernel_rfl, fun w hSw => by first | (simp [execOp, go_sem, hlpn]; done) | (go_simp; done) | (dsimp only at hSw; obtain ⟨hS0, hS1, hS2⟩ := hSw; go_simp; done) | rfl⟩) (by assumption) ?_
      simp only [Act.put, List.getElem_toArray, List.getElem_cons_succ, List.getElem_cons_zero, List.setIfInBounds_toArray, List.set_cons_succ, List.set_cons_zero]
      refine wpAnyH_take (i := 3) (v := .pointer (some ⟨g, 2, none⟩)) rfl (by kernel_rfl) (by kernel_rfl) (by kernel_rfl) (fun _ _ _ h => h) (Or.inl ⟨by kernel_rfl, fun w hSw => by first | (go_simp; done) | (dsimp only at hSw; obtain ⟨hS0, hS1, hS2⟩ := hSw; go_simp; done) | rfl⟩) (by assumption) ?_
      simp only [Act.put, List.getElem_toArray, List.getElem_cons_succ, List.getElem_cons_zero, List.setIfInBounds_toArray, List.set_cons_succ, List.set_cons_zero]
      refine wpAnyH_take (i := 4) (v := .int .i64 fr) rfl (by kernel_rfl) (by kernel_rfl) (by kernel_rfl) (fun _ _ _ h => h) (Or.inl ⟨by kernel_rfl, fun w hSw => by first | (obtain ⟨z0, z1, z2, z3, z4, z5, z6⟩ := HS10.out _ hSw; go_simp; done) | (go_simp; done) | (dsimp only at hSw; obtain ⟨hS0, hS1, hS2⟩ := hSw; go_simp; done) | rfl⟩) (by assumption) ?_
      simp only [Act.put, List.getElem_toArray, List.getElem_cons_succ, List.getElem_cons_zero, List.setIfInBounds_toArray, List.set_cons_succ, List.set_cons_zero]
      refine wpAnyH_take (i := 5) (v := .slice (some ⟨g, 0, none⟩) rs.length gc) rfl (by kernel_rfl) (by kernel_rfl) (by kernel_rfl) (fun _ _ _ h => h) (Or.inl ⟨by kernel_rfl, fun w hSw => by first | (go_simp; done) | (dsimp only at hSw; obtain ⟨hS0, hS1, hS2⟩ := hSw; go_simp; done) | rfl⟩) (by assumption) ?_
      simp only [Act.put, List.getElem_toArray, List.getElem_cons_succ, List.getElem_cons_zero, List.setIfInBounds_toArray, List.set_cons_succ, List.set_cons_zero]
      refine wpAnyH_take (i := 6) (v := .pointer (some ⟨g, 0, none⟩)) rfl (by kernel_rfl) (by kernel_rfl) (by kernel_rfl) (fun _ _ _ h => h) (Or.inl ⟨by kernel_rfl, fun w hSw => by first | (simp [execOp, go_sem, hlpn]; done) | (go_simp; done) | (dsimp only at hSw; obtain ⟨hS0, hS1, hS2⟩ := hSw; go_simp; done) | rfl⟩) (by assumption) ?_
      simp only [Act.put, List.getElem_toArray, List.getElem_cons_succ, List.getElem_cons_zero, List.setIfInBounds_toArray, List.set_cons_succ, List.set_cons_zero]
      refine wpAnyH_take (i := 7) (v := .pointer (some ⟨g, 3, none⟩)) rfl (by kernel_rfl) (by kernel_rfl) (by kernel_rfl) (fun _ _ _ h => h) (Or.inl ⟨by kernel_rfl, fun w hSw => by first | (go_simp; done) | (dsimp only at hSw; obtain ⟨hS0, hS1, hS2⟩ := hSw; go_simp; done) | rfl⟩) (by assumption) ?_
      simp only [Act.put, List.getElem_toArray, List.getElem_cons_succ, List.getElem_cons_zero, List.setIfInBounds_toArray, List.set_cons_succ, List.set_cons_zero]
      refine wpAnyH_take (i := 8) (v := .int .i64 q0) rfl (by kernel_rfl) (by kernel_rfl) (by kernel_rfl) (fun _ _ _ h => h) (Or.inl ⟨by kernel_rfl, fun w hSw => by first | (obtain ⟨z0, z1, z2, z3, z4, z5, z6⟩ := HS10.out _ hSw; go_simp; done) | (go_simp; done) | (dsimp only at hSw; obtain ⟨hS0, hS1, hS2⟩ := hSw; go_simp; done) | rfl⟩) (by assumption) ?_
      simp only [Act.put, List.getElem_toArray, List.getElem_cons_succ, List.getElem_cons_zero, List.setIfInBounds_toArray, List.set_cons_succ, List.set_cons_zero]
      refine wpAnyH_ready (rs := [9]) (by kernel_rfl) (by simp) ?_
      refine AllReadyH.cons rfl (fun K hK => ?_) AllReadyH.nil
      go_simp
      go_wp2_with (go_at_call 11; (with_reducible refine (HCC.out _ K10).mono ?_); rintro e w8 ⟨rfl, L8⟩; have K18 : Below w7.heap.size w7 w8 := K10.trans (L8.mono K10.size))
      refine hK.out _ _ ?_ (fun hHeld2 => ?_)
      · first | with_reducible exact hHeld | exact HK10.out _ K18
      clear hK K hHeld
      have hHeld := hHeld2
      clear hHeld2
      refine wpAnyH_take (i := 10) (v := .tuple #[.int .i64 (i : Int), .int .i64 zz0, .bool true]) rfl (by kernel_rfl) (by kernel_rfl) (by kernel_rfl) (fun _ _ _ h => h) (Or.inl ⟨by kernel_rfl, fun w hSw => by first | (go_simp; done) | (dsimp only at hSw; obtain ⟨hS0, hS1, hS2⟩ := hSw; go_simp; done) | rfl⟩) (by assumption) ?_
      simp only [Act.put, List.getElem_toArray, List.getElem_cons_succ, List.getElem_cons_zero, List.setIfInBounds_toArray, List.set_cons_succ, List.set_cons_zero]
      refine wpAnyH_take (i := 11) (v := .int .i64 (i : Int)) rfl (by kernel_rfl) (by kernel_rfl) (by kernel_rfl) (fun _ _ _ h => h) (Or.inl ⟨by kernel_rfl, fun w hSw => by first | (go_simp; done) | (dsimp only at hSw; obtain ⟨hS0, hS1, hS2⟩ := hSw; go_simp; done) | rfl⟩) (by assumption) ?_
      simp only [Act.put, List.getElem_toArray, List.getElem_cons_succ, List.getElem_cons_zero, List.setIfInBounds_toArray, List.set_cons_succ, List.set_cons_zero]
      refine wpAnyH_take (i := 12) (v := .int .i64 zz0) rfl (by kernel_rfl) (by kernel_rfl) (by kernel_rfl) (fun _ _ _ h => h) (Or.inl ⟨by kernel_rfl, fun w hSw => by first | (go_simp; done) | (dsimp only at hSw; obtain ⟨hS0, hS1, hS2⟩ := hSw; go_simp; done) | rfl⟩) (by assumption) ?_
      simp only [Act.put, List.getElem_toArray, List.getElem_cons_succ, List.getElem_cons_zero, List.setIfInBounds_toArray, List.set_cons_succ, List.set_cons_zero]
      refine wpAnyH_take (i := 13) (v := .bool true) rfl (by kernel_rfl) (by kernel_rfl) (by kernel_rfl) (fun _ _ _ h => h) (Or.inl ⟨by kernel_rfl, fun w hSw => by first | (go_simp; done) | (dsimp only at hSw; obtain ⟨hS0, hS1, hS2⟩ := hSw; go_simp; done) | rfl⟩) (by assumption) ?_
      simp only [Act.put, List.getElem_toArray, List.getElem_cons_succ, List.getElem_cons_zero, List.setIfInBounds_toArray, List.set_cons_succ, List.set_cons_zero]
      refine wpAnyH_ready (rs := [14]) (by kernel_rfl) (by simp) ?_
      refine AllReadyH.cons rfl (fun K hK => ?_) AllReadyH.nil
      go_simp
      refine hK.out _ _ ?_ (fun hHeld2 => ?_)
      · first | with_reducible exact hHeld | exact HK10.out _ K18
      clear hK K hHeld
      have hHeld := hHeld2
      clear hHeld2
      refine wpAnyH_ready (rs := [15]) (by kernel_rfl) (by simp) ?_
      refine AllReadyH.cons rfl (fun K hK => ?_) AllReadyH.nil
      go_simp
      refine hK.out _ _ ?_ (fun hHeld2 => ?_)
      · first | with_reducible exact hHeld | exact HK10.out _ K18
      clear hK K hHeld
      have hHeld := hHeld2
      clear hHeld2
      refine wpAnyH_ready (rs := [16]) (by kernel_rfl) (by simp) ?_
      refine AllReadyH.cons rfl (fun K hK => ?_) AllReadyH.nil
      go_simp
      refine hK.out _ _ ?_ (fun hHeld2 => ?_)
      · first | with_reducible exact hHeld | exact HK10.out _ K18
      clear hK K hHeld
      have hHeld := hHeld2
      clear hHeld2
      refine wpAnyH_done (by kernel_rfl) ?_ _
      have x8 := kept K18 (lt_of x7) x7
      have T8 := T7.on K18
      have K8 := join_below K7 K18
      have G8 := G7.on K18
      have S8 := S7.on K18
      clear x7 T7 K7 G7 S7 K18 K10 HK10 HS10 HCC L8 hHeld
      obtain ⟨-, c9⟩ := HRI.out _ G8
      obtain ⟨m, hm⟩ : ∃ m, rs.length - 1 = m := ⟨_, rfl⟩
      have hlen := HLN6.out
      have hwl : IntKind.i64.wrap ((rs.length : Int) - 1) = (m : Int) := by rw [IntKind.wrap_i64]; omega
      have hml : (m : Int) < (rs.length : Int) := by omega
      rw [hm] at c9
      obtain ⟨c90, c91, c92, c93⟩ := c9
      have HM : Hid (rs.length - 1 = m) := hm
      clear hm hlen
      have N9 := new_below w8 (.cells #[.int .i64 n1, .int .i64 d1, .int .i64 f1, .int .i64 tt] 37)
      have x9 := heap_new w8 (.cells #[.int .i64 n1, .int .i64 d1, .int .i64 f1, .int .i64 tt] 37)
      have y9 := heap_old x8 (.cells #[.int .i64 n1, .int .i64 d1, .int .i64 f1, .int .i64 tt] 37)
      have T9 := T8.on N9
      have K9 := join_below K8 N9
      have G9 := G8.on N9
      have S9 := S8.on N9
      have p0 : (w8.alloc (.cells #[.int .i64 n1, .int .i64 d1, .int .i64 f1, .int .i64 tt] 37)).cell? ⟨w8.heap.size, 0, none⟩ = some (.int .i64 n1) := cell_at x9 0
      go_wp2_with fail
      generalize w8.alloc (.cells #[.int .i64 n1, .int .i64 d1, .int .i64 f1, .int .i64 tt] 37) = w9 at *
      generalize w8.heap.size = P19 at *
      clear c90 c91 c92 c93 p0 x8 T8 K8 G8 S8 N9
      refine (HF1.out _ T9).mono ?_
      rintro e w10 ⟨⟨sb1, sc1, rfl, hsb1, S10⟩, L10⟩
      have NB := new_below w10 (.cells #[.int .i64 t1.h.id, .int .i64 t1.h.dy, .int .i64 t1.h.co, .int .i64 t1.h.se, .slice (some ⟨sb1, 0, none⟩) t1.l.length sc1] 33)
      have x11 := heap_new w10 (.cells #[.int .i64 t1.h.id, .int .i64 t1.h.dy, .int .i64 t1.h.co, .int .i64 t1.h.se, .slice (some ⟨sb1, 0, none⟩) t1.l.length sc1] 33)
      have LL := join_below L10 NB
      have T11 := T9.on LL
      have K11 := join_below K9 LL
      have G11 := G9.on LL
      have S11 := S9.on LL
      have Z11 := S10.on NB
      have y11 := kept LL (lt_of y9) y9
      have z11 := kept LL (lt_of x9) x9
      clear T9 K9 LL L10 NB S10 G9 S9 y9 x9 HF1 hsb1
      have a0 : (w10.alloc (.cells #[.int .i64 t1.h.id, .int .i64 t1.h.dy, .int .i64 t1.h.co, .int .i64 t1.h.se, .slice (some ⟨sb1, 0, none⟩) t1.l.length sc1] 33)).cell? ⟨w10.heap.size, 0, none⟩ = some (.int .i64 t1.h.id) := cell_at x11 0
      have a1 : (w10.alloc (.cells #[.int .i64 t1.h.id, .int .i64 t1.h.dy, .int .i64 t1.h.co, .int .i64 t1.h.se, .slice (some ⟨sb1, 0, none⟩) t1.l.length sc1] 33)).cell? ⟨w10.heap.size, 1, none⟩ = some (.int .i64 t1.h.dy) := cell_at x11 1
      have a2 : (w10.alloc (.cells #[.int .i64 t1.h.id, .int .i64 t1.h.dy, .int .i64 t1.h.co, .int .i64 t1.h.se, .slice (some ⟨sb1, 0, none⟩) t1.l.length sc1] 33)).cell? ⟨w10.heap.size, 2, none⟩ = some (.int .i64 t1.h.co) := cell_at x11 2
      have a3 : (w10.alloc (.cells #[.int .i64 t1.h.id, .int .i64 t1.h.dy, .int .i64 t1.h.co, .int .i64 t1.h.se, .slice (some ⟨sb1, 0, none⟩) t1.l.length sc1] 33)).cell? ⟨w10.heap.size, 3, none⟩ = some (.int .i64 t1.h.se) := cell_at x11 3
      have a4 : (w10.alloc (.cells #[.int .i64 t1.h.id, .int .i64 t1.h.dy, .int .i64 t1.h.co, .int .i64 t1.h.se, .slice (some ⟨sb1, 0, none⟩) t1.l.length sc1] 33)).cell? ⟨w10.heap.size, 4, none⟩ = some (.slice (some ⟨sb1, 0, none⟩) t1.l.length sc1) := cell_at x11 4
      have b2 : (w10.alloc (.cells #[.int .i64 t1.h.id, .int .i64 t1.h.dy, .int .i64 t1.h.co, .int .i64 t1.h.se, .slice (some ⟨sb1, 0, none⟩) t1.l.length sc1] 33)).cell? ⟨P19, 2, none⟩ = some (.int .i64 f1) := cell_at z11 2
      have b3 : (w10.alloc (.cells #[.int .i64 t1.h.id, .int .i64 t1.h.dy, .int .i64 t1.h.co, .int .i64 t1.h.se, .slice (some ⟨sb1, 0, none⟩) t1.l.length sc1] 33)).cell? ⟨P19, 3, none⟩ = some (.int .i64 tt) := cell_at z11 3
      go_wp2_with fail
      generalize w10.alloc (.cells #[.int .i64 t1.h.id, .int .i64 t1.h.dy, .int .i64 t1.h.co, .int .i64 t1.h.se, .slice (some ⟨sb1, 0, none⟩) t1.l.length sc1] 33) = v11 at *
      generalize w10.heap.size = P20 at *
      refine (HC1.out _ _ _ Z11).mono ?_
      rintro e w11 ⟨rfl, L11⟩
      have T12 := T11.on L11
      have K12 := join_below K11 L11
      have G12 := G11.on L11
      have S12 := S11.on L11
      have Z12 := Z11.on L11
      have x12 := kept L11 (lt_of x11) x11
      have y12 := kept L11 (lt_of y11) y11
      have z12 := kept L11 (lt_of z11) z11
      clear T11 K11 G11 S11 Z11 x11 y11 z11 L11 a0 a1 a2 a3 a4 b2 b3 HC1
      go_upto_region 14 with fail
      have K14 : Below w11.heap.size w11 w11.drew := (Below.refl _ _).drew
      have HK14 : Hid (∀ W, Below w11.heap.size w11 W → W.heap[P14]? = some (.cells #[.int .i64 t0.h.id, .int .i64 t0.h.dy, .int .i64 t0.h.co, .int .i64 t0.h.se, .slice (some ⟨sb, 0, none⟩) t0.l.length sc] 33) ∧ W.heap[P19]? = some (.cells #[.int .i64 n1, .int .i64 d1, .int .i64 f1, .int .i64 tt] 37) ∧ W.heap[P20]? = some (.cells #[.int .i64 t1.h.id, .int .i64 t1.h.dy, .int .i64 t1.h.co, .int .i64 t1.h.se, .slice (some ⟨sb1, 0, none⟩) t1.l.length sc1] 33) ∧ W.cell? ⟨g, 1, none⟩ = some (.int .i64 d0) ∧ W.cell? ⟨g, 2, none⟩ = some (.int .i64 fr) ∧ W.cell? ⟨sb, i * 3 + 2, none⟩ = some (.int .i64 dp0) ∧ W.cell? ⟨sb1, j * 3 + 1, none⟩ = some (.int .i64 ar1)) := fun W K => ⟨kept K (lt_of y12) y12, kept K (lt_of z12) z12, kept K (lt_of x12) x12, (HRI.out W (G12.on K)).1.2.1, (HRI.out W (G12.on K)).1.2.2.1, HS0.out sb W (S12.on K), HS1.out sb1 W (Z12.on K)⟩
      have HS14 : Hid (∀ W : World, (W.heap[P14]? = some (.cells #[.int .i64 t0.h.id, .int .i64 t0.h.dy, .int .i64 t0.h.co, .int .i64 t0.h.se, .slice (some ⟨sb, 0, none⟩) t0.l.length sc] 33) ∧ W.heap[P19]? = some (.cells #[.int .i64 n1, .int .i64 d1, .int .i64 f1, .int .i64 tt] 37) ∧ W.heap[P20]? = some (.cells #[.int .i64 t1.h.id, .int .i64 t1.h.dy, .int .i64 t1.h.co, .int .i64 t1.h.se, .slice (some ⟨sb1, 0, none⟩) t1.l.length sc1] 33) ∧ W.cell? ⟨g, 1, none⟩ = some (.int .i64 d0) ∧ W.cell? ⟨g, 2, none⟩ = some (.int .i64 fr) ∧ W.cell? ⟨sb, i * 3 + 2, none⟩ = some (.int .i64 dp0) ∧ W.cell? ⟨sb1, j * 3 + 1, none⟩ = some (.int .i64 ar1)) → W.cell? ⟨P14, 4, none⟩ = some (.slice (some ⟨sb, 0, none⟩) t0.l.length sc) ∧ W.cell? ⟨P19, 3, none⟩ = some (.int .i64 tt) ∧ W.cell? ⟨P19, 1, none⟩ = some (.int .i64 d1) ∧ W.cell? ⟨P20, 4, none⟩ = some (.slice (some ⟨sb1, 0, none⟩) t1.l.length sc1) ∧ W.cell? ⟨g, 1, none⟩ = some (.int .i64 d0) ∧ W.cell? ⟨g, 2, none⟩ = some (.int .i64 fr) ∧ W.cell? ⟨sb, i * 3 + 2, none⟩ = some (.int .i64 dp0) ∧ W.cell? ⟨sb1, j * 3 + 1, none⟩ = some (.int .i64 ar1)) := fun W q => ⟨cell_at q.1 4, cell_at q.2.1 3, cell_at q.2.1 1, cell_at q.2.2.1 4, q.2.2.2.1, q.2.2.2.2.1, q.2.2.2.2.2.1, q.2.2.2.2.2.2⟩
      have HRO : Hid (∀ W, Below w11.heap.size w11 W → _) := fun W K => HRO0.out W (T12.on K) (G12.on K)
      have hi3 := HI3.out.1
      have hj3 := HI3.out.2
      clear HRO0 HRI HS0 HS1 x12 y12 z12
      refine wp_region_held_drew (S := (fun w' => w'.heap[P14]? = some (.cells #[.int .i64 t0.h.id, .int .i64 t0.h.dy, .int .i64 t0.h.co, .int .i64 t0.h.se, .slice (some ⟨sb, 0, none⟩) t0.l.length sc] 33) ∧ w'.heap[P19]? = some (.cells #[.int .i64 n1, .int .i64 d1, .int .i64 f1, .int .i64 tt] 37) ∧ w'.heap[P20]? = some (.cells #[.int .i64 t1.h.id, .int .i64 t1.h.dy, .int .i64 t1.h.co, .int .i64 t1.h.se, .slice (some ⟨sb1, 0, none⟩) t1.l.length sc1] 33) ∧ w'.cell? ⟨g, 1, none⟩ = some (.int .i64 d0) ∧ w'.cell? ⟨g, 2, none⟩ = some (.int .i64 fr) ∧ w'.cell? ⟨sb, i * 3 + 2, none⟩ = some (.int .i64 dp0) ∧ w'.cell? ⟨sb1, j * 3 + 1, none⟩ = some (.int .i64 ar1))) (by kernel_rfl) ?_ (fun hHeld => ?_)
      · exact HK14.out _ K14
      refine wpAnyH_take (i := 0) (v := .slice va ts.length vc) rfl (by kernel_rfl) (by kernel_rfl) (by kernel_rfl) (fun _ _ _ h => h) (Or.inl ⟨by kernel_rfl, fun w hSw => by first | (go_simp; done) | (dsimp only at hSw; obtain ⟨hS0, hS1, hS2, hS3, hS4, hS5, hS6⟩ := hSw; go_simp; done) | rfl⟩) (by assumption) ?_
      simp only [Act.put, List.getElem_toArray, List.getElem_cons_succ, List.getElem_cons_zero, List.setIfInBounds_toArray, List.set_cons_succ, List.set_cons_zero]
      refine wpAnyH_take (i := 1) (v := .slice (some ⟨g, 0, none⟩) rs.length gc) rfl (by kernel_rfl) (by kernel_rfl) (by kernel_rfl) (fun _ _ _ h => h) (Or.inl ⟨by kernel_rfl, fun w hSw => by first | (go_simp; done) | (dsimp only at hSw; obtain ⟨hS0, hS1, hS2, hS3, hS4, hS5, hS6⟩ := hSw; go_simp; done) | rfl⟩) (by assumption) ?_
      simp only [Act.put, List.getElem_toArray, List.getElem_cons_succ, List.getElem_cons_zero, List.setIfInBounds_toArray, List.set_cons_succ, List.set_cons_zero]
      refine wpAnyH_ready (rs := [2]) (by kernel_rfl) (by simp) ?_
      refine AllReadyH.cons rfl (fun K hK => ?_) AllReadyH.nil
      go_simp
      go_wp2_with (go_at_call 12; (with_reducible refine (HRO.out _ K14).mono ?_); rintro e w12 ⟨rfl, L12⟩; have K24 : Below w11.heap.size w11 w12 := K14.trans (L12.mono K14.size))
      refine hK.out _ _ ?_ (fun hHeld2 => ?_)
      · first | with_reducible exact hHeld | exact HK14.out _ K24
      clear hK K hHeld
      have hHeld := hHeld2
      clear hHeld2
      refine wpAnyH_take (i := 3) (v := .bool false) rfl (by kernel_rfl) (by kernel_rfl) (by kernel_rfl) (fun _ _ _ h => h) (Or.inl ⟨by kernel_rfl, fun w hSw => by first | (go_simp; done) | (dsimp only at hSw; obtain ⟨hS0, hS1, hS2, hS3, hS4, hS5, hS6⟩ := hSw; go_simp; done) | rfl⟩) (by assumption) ?_
      simp only [Act.put, List.getElem_toArray, List.getElem_cons_succ, List.getElem_cons_zero, List.setIfInBounds_toArray, List.set_cons_succ, List.set_cons_zero]
      refine wpAnyH_take (i := 4) (v := .bool false) rfl (by kernel_rfl) (by kernel_rfl) (by kernel_rfl) (fun _ _ _ h => h) (Or.inl ⟨by kernel_rfl, fun w hSw => by first | (go_simp; done) | (dsimp only at hSw; obtain ⟨hS0, hS1, hS2, hS3, hS4, hS5, hS6⟩ := hSw; go_simp; done) | rfl⟩) (by assumption) ?_
      simp only [Act.put, List.getElem_toArray, List.getElem_cons_succ, List.getElem_cons_zero, List.setIfInBounds_toArray, List.set_cons_succ, List.set_cons_zero]
      refine wpAnyH_take (i := 5) (v := .slice (some ⟨g, 0, none⟩) rs.length gc) rfl (by kernel_rfl) (by kernel_rfl) (by kernel_rfl) (fun _ _ _ h => h) (Or.inl ⟨by kernel_rfl, fun w hSw => by first | (go_simp; done) | (dsimp only at hSw; obtain ⟨hS0, hS1, hS2, hS3, hS4, hS5, hS6⟩ := hSw; go_simp; done) | rfl⟩) (by assumption) ?_
      simp only [Act.put, List.getElem_toArray, List.getElem_cons_succ, List.getElem_cons_zero, List.setIfInBounds_toArray, List.set_cons_succ, List.set_cons_zero]
      refine wpAnyH_take (i := 6) (v := .pointer (some ⟨g, 0, none⟩)) rfl (by kernel_rfl) (by kernel_rfl) (by kernel_rfl) (fun _ _ _ h => h) (Or.inl ⟨by kernel_rfl, fun w hSw => by first | (go_simp; done) | (dsimp only at hSw; obtain ⟨hS0, hS1, hS2, hS3, hS4, hS5, hS6⟩ := hSw; go_simp; done) | rfl⟩) (by assumption) ?_
      simp only [Act.put, List.getElem_toArray, List.getElem_cons_succ, List.getElem_cons_zero, List.setIfInBounds_toArray, List.set_cons_succ, List.set_cons_zero]
      refine wpAnyH_take (i := 7) (v := .pointer (some ⟨g, 2, none⟩)) rfl (by kernel_rfl) (by kernel_rfl) (by kernel_rfl) (fun _ _ _ h => h) (Or.inl ⟨by kernel_rfl, fun w hSw => by first | (go_simp; done) | (dsimp only at hSw; obtain ⟨hS0, hS1, hS2, hS3, hS4, hS5, hS6⟩ := hSw; go_simp; done) | rfl⟩) (by assumption) ?_
      simp only [Act.put, List.getElem_toArray, List.getElem_cons_succ, List.getElem_cons_zero, List.setIfInBounds_toArray, List.set_cons_succ, List.set_cons_zero]
      refine wpAnyH_take (i := 8) (v := .int .i64 fr) rfl (by kernel_rfl) (by kernel_rfl) (by kernel_rfl) (fun _ _ _ h => h) (Or.inl ⟨by kernel_rfl, fun w hSw => by first | (obtain ⟨z0, z1, z2, z3, z4, z5, z6, z7⟩ := HS14.out _ hSw; go_simp; done) | (go_simp; done) | (dsimp only at hSw; obtain ⟨hS0, hS1, hS2, hS3, hS4, hS5, hS6⟩ := hSw; go_simp; done) | rfl⟩) (by assumption) ?_
      simp only [Act.put, List.getElem_toArray, List.getElem_cons_succ, List.getElem_cons_zero, List.setIfInBounds_toArray, List.set_cons_succ, List.set_cons_zero]
      refine wpAnyH_take (i := 9) (v := .int .i64 fr) rfl (by kernel_rfl) (by kernel_rfl) (by kernel_rfl) (fun _ _ _ h => h) (Or.inl ⟨by kernel_rfl, fun w hSw => by first | (go_simp; done) | (dsimp only at hSw; obtain ⟨hS0, hS1, hS2, hS3, hS4, hS5, hS6⟩ := hSw; go_simp; done) | rfl⟩) (by assumption) ?_
      simp only [Act.put, List.getElem_toArray, List.getElem_cons_succ, List.getElem_cons_zero, List.setIfInBounds_toArray, List.set_cons_succ, List.set_cons_zero]
      refine wpAnyH_take (i := 10) (v := .bool false) rfl (by kernel_rfl) (by kernel_rfl) (by kernel_rfl) (fun _ _ _ h => h) (Or.inl ⟨by kernel_rfl, fun w hSw => by first | (go_simp; done) | (dsimp only at hSw; obtain ⟨hS0, hS1, hS2, hS3, hS4, hS5, hS6⟩ := hSw; go_simp; done) | rfl⟩) (by assumption) ?_
      simp only [Act.put, List.getElem_toArray, List.getElem_cons_succ, List.getElem_cons_zero, List.setIfInBounds_toArray, List.set_cons_succ, List.set_cons_zero]
      refine wpAnyH_take (i := 11) (v := .bool false) rfl (by kernel_rfl) (by kernel_rfl) (by kernel_rfl) (fun _ _ _ h => h) (Or.inl ⟨by kernel_rfl, fun w hSw => by first | (go_simp; done) | (dsimp only at hSw; obtain ⟨hS0, hS1, hS2, hS3, hS4, hS5, hS6⟩ := hSw; go_simp; done) | rfl⟩) (by assumption) ?_
      simp only [Act.put, List.getElem_toArray, List.getElem_cons_succ, List.getElem_cons_zero, List.setIfInBounds_toArray, List.set_cons_succ, List.set_cons_zero]
      refine wpAnyH_take (i := 12) (v := .bool false) rfl (by kernel_rfl) (by kernel_rfl) (by kernel_rfl) (fun _ _ _ h => h) (Or.inl ⟨by kernel_rfl, fun w hSw => by first | (go_simp; done) | (dsimp only at hSw; obtain ⟨hS0, hS1, hS2, hS3, hS4, hS5, hS6⟩ := hSw; go_simp; done) | rfl⟩) (by assumption) ?_
      simp only [Act.put, List.getElem_toArray, List.getElem_cons_succ, List.getElem_cons_zero, List.setIfInBounds_toArray, List.set_cons_succ, List.set_cons_zero]
      refine wpAnyH_take (i := 13) (v := .pointer (some ⟨P19, 3, none⟩)) rfl (by kernel_rfl) (by kernel_rfl) (by kernel_rfl) (fun _ _ _ h => h) (Or.inl ⟨by kernel_rfl, fun w hSw => by first | (go_simp; done) | (dsimp only at hSw; obtain ⟨hS0, hS1, hS2, hS3, hS4, hS5, hS6⟩ := hSw; go_simp; done) | rfl⟩) (by assumption) ?_
      simp only [Act.put, List.getElem_toArray, List.getElem_cons_succ, List.getElem_cons_zero, List.setIfInBounds_toArray, List.set_cons_succ, List.set_cons_zero]
      refine wpAnyH_take (i := 14) (v := .int .i64 tt) rfl (by kernel_rfl) (by kernel_rfl) (by kernel_rfl) (fun _ _ _ h => h) (Or.inl ⟨by kernel_rfl, fun w hSw => by first | (obtain ⟨z0, z1, z2, z3, z4, z5, z6, z7⟩ := HS14.out _ hSw; go_simp; done) | (go_simp; done) | (dsimp only at hSw; obtain ⟨hS0, hS1, hS2, hS3, hS4, hS5, hS6⟩ := hSw; go_simp; done) | rfl⟩) (by assumption) ?_
      simp only [Act.put, List.getElem_toArray, List.getElem_cons_succ, List.getElem_cons_zero, List.setIfInBounds_toArray, List.set_cons_succ, List.set_cons_zero]
      refine wpAnyH_take (i := 15) (v := .int .i64 tt) rfl (by kernel_rfl) (by kernel_rfl) (by kernel_rfl) (fun _ _ _ h => h) (Or.inl ⟨by kernel_rfl, fun w hSw => by first | (go_simp; done) | (dsimp only at hSw; obtain ⟨hS0, hS1, hS2, hS3, hS4, hS5, hS6⟩ := hSw; go_simp; done) | rfl⟩) (by assumption) ?_
      simp only [Act.put, List.getElem_toArray, List.getElem_cons_succ, List.getElem_cons_zero, List.setIfInBounds_toArray, List.set_cons_succ, List.set_cons_zero]
      refine wpAnyH_take (i := 16) (v := .bool false) rfl (by kernel_rfl) (by kernel_rfl) (by kernel_rfl) (fun _ _ _ h => h) (Or.inl ⟨by kernel_rfl, fun w hSw => by first | (go_simp; done) | (dsimp only at hSw; obtain ⟨hS0, hS1, hS2, hS3, hS4, hS5, hS6⟩ := hSw; go_simp; done) | rfl⟩) (by assumption) ?_
      simp only [Act.put, List.getElem_toArray, List.getElem_cons_succ, List.getElem_cons_zero, List.setIfInBounds_toArray, List.set_cons_succ, List.set_cons_zero]
      refine wpAnyH_take (i := 17) (v := .bool false) rfl (by kernel_rfl) (by kernel_rfl) (by kernel_rfl) (fun _ _ _ h => h) (Or.inl ⟨by kernel_rfl, fun w hSw => by first | (go_simp; done) | (dsimp only at hSw; obtain ⟨hS0, hS1, hS2, hS3, hS4, hS5, hS6⟩ := hSw; go_simp; done) | rfl⟩) (by assumption) ?_
      simp only [Act.put, List.getElem_toArray, List.getElem_cons_succ, List.getElem_cons_zero, List.setIfInBounds_toArray, List.set_cons_succ, List.set_cons_zero]
      refine wpAnyH_take (i := 18) (v := .bool false) rfl (by kernel_rfl) (by kernel_rfl) (by kernel_rfl) (fun _ _ _ h => h) (Or.inl ⟨by kernel_rfl, fun w hSw => by first | (go_simp; done) | (dsimp only at hSw; obtain ⟨hS0, hS1, hS2, hS3, hS4, hS5, hS6⟩ := hSw; go_simp; done) | rfl⟩) (by assumption) ?_
      simp only [Act.put, List.getElem_toArray, List.getElem_cons_succ, List.getElem_cons_zero, List.setIfInBounds_toArray, List.set_cons_succ, List.set_cons_zero]
      refine wpAnyH_take (i := 19) (v := .slice (some ⟨g, 0, none⟩) rs.length gc) rfl (by kernel_rfl) (by kernel_rfl) (by kernel_rfl) (fun _ _ _ h => h) (Or.inl ⟨by kernel_rfl, fun w hSw => by first | (go_simp; done) | (dsimp only at hSw; obtain ⟨hS0, hS1, hS2, hS3, hS4, hS5, hS6⟩ := hSw; go_simp; done) | rfl⟩) (by assumption) ?_
      simp only [Act.put, List.getElem_toArray, List.getElem_cons_succ, List.getElem_cons_zero, List.setIfInBounds_toArray, List.set_cons_succ, List.set_cons_zero]
      refine wpAnyH_take (i := 20) (v := .pointer (some ⟨g, 0, none⟩)) rfl (by kernel_rfl) (by kernel_rfl) (by kernel_rfl) (fun _ _ _ h => h) (Or.inl ⟨by kernel_rfl, fun w hSw => by first | (go_simp; done) | (dsimp only at hSw; obtain ⟨hS0, hS1, hS2, hS3, hS4, hS5, hS6⟩ := hSw; go_simp; done) | rfl⟩) (by assumption) ?_
      simp only [Act.put, List.getElem_toArray, List.getElem_cons_succ, List.getElem_cons_zero, List.setIfInBounds_toArray, List.set_cons_succ, List.set_cons_zero]
      refine wpAnyH_take (i := 21) (v := .pointer (some ⟨g, 1, none⟩)) rfl (by kernel_rfl) (by kernel_rfl) (by kernel_rfl) (fun _ _ _ h => h) (Or.inl ⟨by kernel_rfl, fun w hSw => by first | (go_simp; done) | (dsimp only at hSw; obtain ⟨hS0, hS1, hS2, hS3, hS4, hS5, hS6⟩ := hSw; go_simp; done) | rfl⟩) (by assumption) ?_
      simp only [Act.put, List.getElem_toArray, List.getElem_cons_succ, List.getElem_cons_zero, List.setIfInBounds_toArray, List.set_cons_succ, List.set_cons_zero]
      refine wpAnyH_take (i := 22) (v := .int .i64 d0) rfl (by kernel_rfl) (by kernel_rfl) (by kernel_rfl) (fun _ _ _ h => h) (Or.inl ⟨by kernel_rfl, fun w hSw => by first | (obtain ⟨z0, z1, z2, z3, z4, z5, z6, z7⟩ := HS14.out _ hSw; go_simp; done) | (go_simp; done) | (dsimp only at hSw; obtain ⟨hS0, hS1, hS2, hS3, hS4, hS5, hS6⟩ := hSw; go_simp; done) | rfl⟩) (by assumption) ?_
      simp only [Act.put, List.getElem_toArray, List.getElem_cons_succ, List.getElem_cons_zero, List.setIfInBounds_toArray, List.set_cons_succ, List.set_cons_zero]
      refine wpAnyH_take (i := 23) (v := .int .i64 (1440 * d0)) rfl (by kernel_rfl) (by kernel_rfl) (by kernel_rfl) (fun _ _ _ h => h) (Or.inl ⟨by kernel_rfl, fun w hSw => by first | (go_simp; done) | (dsimp only at hSw; obtain ⟨hS0, hS1, hS2, hS3, hS4, hS5, hS6⟩ := hSw; go_simp; done) | rfl⟩) (by assumption) ?_
      simp only [Act.put, List.getElem_toArray, List.getElem_cons_succ, List.getElem_cons_zero, List.setIfInBounds_toArray, List.set_cons_succ, List.set_cons_zero]
      refine wpAnyH_take (i := 24) (v := .pointer (some ⟨P14, 4, none⟩)) rfl (by kernel_rfl) (by kernel_rfl) (by kernel_rfl) (fun _ _ _ h => h) (Or.inl ⟨by kernel_rfl, fun w hSw => by first | (go_simp; done) | (dsimp only at hSw; obtain ⟨hS0, hS1, hS2, hS3, hS4, hS5, hS6⟩ := hSw; go_simp; done) | rfl⟩) (by assumption) ?_
      simp only [Act.put, List.getElem_toArray, List.getElem_cons_succ, List.getElem_cons_zero, List.setIfInBounds_toArray, List.set_cons_succ, List.set_cons_zero]
      refine wpAnyH_take (i := 25) (v := .slice (some ⟨sb, 0, none⟩) t0.l.length sc) rfl (by kernel_rfl) (by kernel_rfl) (by kernel_rfl) (fun _ _ _ h => h) (Or.inl ⟨by kernel_rfl, fun w hSw => by first | (obtain ⟨z0, z1, z2, z3, z4, z5, z6, z7⟩ := HS14.out _ hSw; go_simp; done) | (go_simp; done) | (dsimp only at hSw; obtain ⟨hS0, hS1, hS2, hS3, hS4, hS5, hS6⟩ := hSw; go_simp; done) | rfl⟩) (by assumption) ?_
      simp only [Act.put, List.getElem_toArray, List.getElem_cons_succ, List.getElem_cons_zero, List.setIfInBounds_toArray, List.set_cons_succ, List.set_cons_zero]
      refine wpAnyH_take (i := 26) (v := .int .i64 (i : Int)) rfl (by kernel_rfl) (by kernel_rfl) (by kernel_rfl) (fun _ _ _ h => h) (Or.inl ⟨by kernel_rfl, fun w hSw => by first | (go_simp; done) | (dsimp only at hSw; obtain ⟨hS0, hS1, hS2, hS3, hS4, hS5, hS6⟩ := hSw; go_simp; done) | rfl⟩) (by assumption) ?_
      simp only [Act.put, List.getElem_toArray, List.getElem_cons_succ, List.getElem_cons_zero, List.setIfInBounds_toArray, List.set_cons_succ, List.set_cons_zero]
      refine wpAnyH_take (i := 27) (v := .pointer (some ⟨sb, i * 3, none⟩)) rfl (by kernel_rfl) (by kernel_rfl) (by kernel_rfl) (fun _ _ _ h => h) (Or.inl ⟨by kernel_rfl, fun w hSw => by first | (go_simp; done) | (dsimp only at hSw; obtain ⟨hS0, hS1, hS2, hS3, hS4, hS5, hS6⟩ := hSw; go_simp; done) | rfl⟩) (by assumption) ?_
      simp only [Act.put, List.getElem_toArray, List.getElem_cons_succ, List.getElem_cons_zero, List.setIfInBounds_toArray, List.set_cons_succ, List.set_cons_zero]
      refine wpAnyH_take (i := 28) (v := .pointer (some ⟨sb, i * 3 + 2, none⟩)) rfl (by kernel_rfl) (by kernel_rfl) (by kernel_rfl) (fun _ _ _ h => h) (Or.inl ⟨by kernel_rfl, fun w hSw => by first | (go_simp; done) | (dsimp only at hSw; obtain ⟨hS0, hS1, hS2, hS3, hS4, hS5, hS6⟩ := hSw; go_simp; done) | rfl⟩) (by assumption) ?_
      simp only [Act.put, List.getElem_toArray, List.getElem_cons_succ, List.getElem_cons_zero, List.setIfInBounds_toArray, List.set_cons_succ, List.set_cons_zero]
      refine wpAnyH_take (i := 29) (v := .int .i64 dp0) rfl (by kernel_rfl) (by kernel_rfl) (by kernel_rfl) (fun _ _ _ h => h) (Or.inl ⟨by kernel_rfl, fun w hSw => by first | (obtain ⟨z0, z1, z2, z3, z4, z5, z6, z7⟩ := HS14.out _ hSw; go_simp; done) | (go_simp; done) | (dsimp only at hSw; obtain ⟨hS0, hS1, hS2, hS3, hS4, hS5, hS6⟩ := hSw; go_simp; done) | rfl⟩) (by assumption) ?_
      simp only [Act.put, List.getElem_toArray, List.getElem_cons_succ, List.getElem_cons_zero, List.setIfInBounds_toArray, List.set_cons_succ, List.set_cons_zero]
      refine wpAnyH_take (i := 30) (v := .int .i64 (1440 * d0 + dp0)) rfl (by kernel_rfl) (by kernel_rfl) (by kernel_rfl) (fun _ _ _ h => h) (Or.inl ⟨by kernel_rfl, fun w hSw => by first | (go_simp; done) | (dsimp only at hSw; obtain ⟨hS0, hS1, hS2, hS3, hS4, hS5, hS6⟩ := hSw; go_simp; done) | rfl⟩) (by assumption) ?_
      simp only [Act.put, List.getElem_toArray, List.getElem_cons_succ, List.getElem_cons_zero, List.setIfInBounds_toArray, List.set_cons_succ, List.set_cons_zero]
      refine wpAnyH_take (i := 31) (v := .int .i64 day) rfl (by kernel_rfl) (by kernel_rfl) (by kernel_rfl) (fun _ _ _ h => h) (Or.inl ⟨by kernel_rfl, fun w hSw => by first | (go_simp; done) | (dsimp only at hSw; obtain ⟨hS0, hS1, hS2, hS3, hS4, hS5, hS6⟩ := hSw; go_simp; done) | rfl⟩) (by assumption) ?_
      simp only [Act.put, List.getElem_toArray, List.getElem_cons_succ, List.getElem_cons_zero, List.setIfInBounds_toArray, List.set_cons_succ, List.set_cons_zero]
      refine wpAnyH_take (i := 32) (v := .int .i64 (1440 * day)) rfl (by kernel_rfl) (by kernel_rfl) (by kernel_rfl) (fun _ _ _ h => h) (Or.inl ⟨by kernel_rfl, fun w hSw => by first | (go_simp; done) | (dsimp only at hSw; obtain ⟨hS0, hS1, hS2, hS3, hS4, hS5, hS6⟩ := hSw; go_simp; done) | rfl⟩) (by assumption) ?_
      simp only [Act.put, List.getElem_toArray, List.getElem_cons_succ, List.getElem_cons_zero, List.setIfInBounds_toArray, List.set_cons_succ, List.set_cons_zero]
      refine wpAnyH_take (i := 33) (v := .int .i64 mi) rfl (by kernel_rfl) (by kernel_rfl) (by kernel_rfl) (fun _ _ _ h => h) (Or.inl ⟨by kernel_rfl, fun w hSw => by first | (go_simp; done) | (dsimp only at hSw; obtain ⟨hS0, hS1, hS2, hS3, hS4, hS5, hS6⟩ := hSw; go_simp; done) | rfl⟩) (by assumption) ?_
      simp only [Act.put, List.getElem_toArray, List.getElem_cons_succ, List.getElem_cons_zero, List.setIfInBounds_toArray, List.set_cons_succ, List.set_cons_zero]
      refine wpAnyH_take (i := 34) (v := .int .i64 (1440 * day + mi)) rfl (by kernel_rfl) (by kernel_rfl) (by kernel_rfl) (fun _ _ _ h => h) (Or.inl ⟨by kernel_rfl, fun w hSw => by first | (go_simp; done) | (dsimp only at hSw; obtain ⟨hS0, hS1, hS2, hS3, hS4, hS5, hS6⟩ := hSw; go_simp; done) | rfl⟩) (by assumption) ?_
      simp only [Act.put, List.getElem_toArray, List.getElem_cons_succ, List.getElem_cons_zero, List.setIfInBounds_toArray, List.set_cons_succ, List.set_cons_zero]
      refine wpAnyH_take (i := 35) (v := .bool false) rfl (by kernel_rfl) (by kernel_rfl) (by kernel_rfl) (fun _ _ _ h => h) (Or.inl ⟨by kernel_rfl, fun w hSw => by first | (go_simp; done) | (dsimp only at hSw; obtain ⟨hS0, hS1, hS2, hS3, hS4, hS5, hS6⟩ := hSw; go_simp; done) | rfl⟩) (by assumption) ?_
      simp only [Act.put, List.getElem_toArray, List.getElem_cons_succ, List.getElem_cons_zero, List.setIfInBounds_toArray, List.set_cons_succ, List.set_cons_zero]
      refine wpAnyH_take (i := 36) (v := .bool false) rfl (by kernel_rfl) (by kernel_rfl) (by kernel_rfl) (fun _ _ _ h => h) (Or.inl ⟨by kernel_rfl, fun w hSw => by first | (go_simp; done) | (dsimp only at hSw; obtain ⟨hS0, hS1, hS2, hS3, hS4, hS5, hS6⟩ := hSw; go_simp; done) | rfl⟩) (by assumption) ?_
      simp only [Act.put, List.getElem_toArray, List.getElem_cons_succ, List.getElem_cons_zero, List.setIfInBounds_toArray, List.set_cons_succ, List.set_cons_zero]
      refine wpAnyH_take (i := 37) (v := .bool false) rfl (by kernel_rfl) (by kernel_rfl) (by kernel_rfl) (fun _ _ _ h => h) (Or.inl ⟨by kernel_rfl, fun w hSw => by first | (go_simp; done) | (dsimp only at hSw; obtain ⟨hS0, hS1, hS2, hS3, hS4, hS5, hS6⟩ := hSw; go_simp; done) | rfl⟩) (by assumption) ?_
      simp only [Act.put, List.getElem_toArray, List.getElem_cons_succ, List.getElem_cons_zero, List.setIfInBounds_toArray, List.set_cons_succ, List.set_cons_zero]
      refine wpAnyH_take (i := 38) (v := .pointer (some ⟨P19, 1, none⟩)) rfl (by kernel_rfl) (by kernel_rfl) (by kernel_rfl) (fun _ _ _ h => h) (Or.inl ⟨by kernel_rfl, fun w hSw => by first | (go_simp; done) | (dsimp only at hSw; obtain ⟨hS0, hS1, hS2, hS3, hS4, hS5, hS6⟩ := hSw; go_simp; done) | rfl⟩) (by assumption) ?_
      simp only [Act.put, List.getElem_toArray, List.getElem_cons_succ, List.getElem_cons_zero, List.setIfInBounds_toArray, List.set_cons_succ, List.set_cons_zero]
      refine wpAnyH_take (i := 39) (v := .int .i64 d1) rfl (by kernel_rfl) (by kernel_rfl) (by kernel_rfl) (fun _ _ _ h => h) (Or.inl ⟨by kernel_rfl, fun w hSw => by first | (obtain ⟨z0, z1, z2, z3, z4, z5, z6, z7⟩ := HS14.out _ hSw; go_simp; done) | (go_simp; done) | (dsimp only at hSw; obtain ⟨hS0, hS1, hS2, hS3, hS4, hS5, hS6⟩ := hSw; go_simp; done) | rfl⟩) (by assumption) ?_
      simp only [Act.put, List.getElem_toArray, List.getElem_cons_succ, List.getElem_cons_zero, List.setIfInBounds_toArray, List.set_cons_succ, List.set_cons_zero]
      refine wpAnyH_take (i := 40) (v := .int .i64 (1440 * d1)) rfl (by kernel_rfl) (by kernel_rfl) (by kernel_rfl) (fun _ _ _ h => h) (Or.inl ⟨by kernel_rfl, fun w hSw => by first | (go_simp; done) | (dsimp only at hSw; obtain ⟨hS0, hS1, hS2, hS3, hS4, hS5, hS6⟩ := hSw; go_simp; done) | rfl⟩) (by assumption) ?_
      simp only [Act.put, List.getElem_toArray, List.getElem_cons_succ, List.getElem_cons_zero, List.setIfInBounds_toArray, List.set_cons_succ, List.set_cons_zero]
      refine wpAnyH_take (i := 41) (v := .pointer (some ⟨P20, 4, none⟩)) rfl (by kernel_rfl) (by kernel_rfl) (by kernel_rfl) (fun _ _ _ h => h) (Or.inl ⟨by kernel_rfl, fun w hSw => by first | (go_simp; done) | (dsimp only at hSw; obtain ⟨hS0, hS1, hS2, hS3, hS4, hS5, hS6⟩ := hSw; go_simp; done) | rfl⟩) (by assumption) ?_
      simp only [Act.put, List.getElem_toArray, List.getElem_cons_succ, List.getElem_cons_zero, List.setIfInBounds_toArray, List.set_cons_succ, List.set_cons_zero]
      refine wpAnyH_take (i := 42) (v := .slice (some ⟨sb1, 0, none⟩) t1.l.length sc1) rfl (by kernel_rfl) (by kernel_rfl) (by kernel_rfl) (fun _ _ _ h => h) (Or.inl ⟨by kernel_rfl, fun w hSw => by first | (obtain ⟨z0, z1, z2, z3, z4, z5, z6, z7⟩ := HS14.out _ hSw; go_simp; done) | (go_simp; done) | (dsimp only at hSw; obtain ⟨hS0, hS1, hS2, hS3, hS4, hS5, hS6⟩ := hSw; go_simp; done) | rfl⟩) (by assumption) ?_
      simp only [Act.put, List.getElem_toArray, List.getElem_cons_succ, List.getElem_cons_zero, List.setIfInBounds_toArray, List.set_cons_succ, List.set_cons_zero]
      refine wpAnyH_take (i := 43) (v := .int .i64 (j : Int)) rfl (by kernel_rfl) (by kernel_rfl) (by kernel_rfl) (fun _ _ _ h => h) (Or.inl ⟨by kernel_rfl, fun w hSw => by first | (go_simp; done) | (dsimp only at hSw; obtain ⟨hS0, hS1, hS2, hS3, hS4, hS5, hS6⟩ := hSw; go_simp; done) | rfl⟩) (by assumption) ?_
      simp only [Act.put, List.getElem_toArray, List.getElem_cons_succ, List.getElem_cons_zero, List.setIfInBounds_toArray, List.set_cons_succ, List.set_cons_zero]
      refine wpAnyH_take (i := 44) (v := .pointer (some ⟨sb1, j * 3, none⟩)) rfl (by kernel_rfl) (by kernel_rfl) (by kernel_rfl) (fun _ _ _ h => h) (Or.inl ⟨by kernel_rfl, fun w hSw => by first | (go_simp; done) | (dsimp only at hSw; obtain ⟨hS0, hS1, hS2, hS3, hS4, hS5, hS6⟩ := hSw; go_simp; done) | rfl⟩) (by assumption) ?_
      simp only [Act.put, List.getElem_toArray, List.getElem_cons_succ, List.getElem_cons_zero, List.setIfInBounds_toArray, List.set_cons_succ, List.set_cons_zero]
      refine wpAnyH_take (i := 45) (v := .pointer (some ⟨sb1, j * 3 + 1, none⟩)) rfl (by kernel_rfl) (by kernel_rfl) (by kernel_rfl) (fun _ _ _ h => h) (Or.inl ⟨by kernel_rfl, fun w hSw => by first | (go_simp; done) | (dsimp only at hSw; obtain ⟨hS0, hS1, hS2, hS3, hS4, hS5, hS6⟩ := hSw; go_simp; done) | rfl⟩) (by assumption) ?_
      simp only [Act.put, List.getElem_toArray, List.getElem_cons_succ, List.getElem_cons_zero, List.setIfInBounds_toArray, List.set_cons_succ, List.set_cons_zero]
      refine wpAnyH_take (i := 46) (v := .int .i64 ar1) rfl (by kernel_rfl) (by kernel_rfl) (by kernel_rfl) (fun _ _ _ h => h) (Or.inl ⟨by kernel_rfl, fun w hSw => by first | (obtain ⟨z0, z1, z2, z3, z4, z5, z6, z7⟩ := HS14.out _ hSw; go_simp; done) | (go_simp; done) | (dsimp only at hSw; obtain ⟨hS0, hS1, hS2, hS3, hS4, hS5, hS6⟩ := hSw; go_simp; done) | rfl⟩) (by assumption) ?_
      simp only [Act.put, List.getElem_toArray, List.getElem_cons_succ, List.getElem_cons_zero, List.setIfInBounds_toArray, List.set_cons_succ, List.set_cons_zero]
      refine wpAnyH_take (i := 47) (v := .int .i64 z) rfl (by kernel_rfl) (by kernel_rfl) (by kernel_rfl) (fun _ _ _ h => h) (Or.inl ⟨by kernel_rfl, fun w hSw => by first | (go_simp; done) | (dsimp only at hSw; obtain ⟨hS0, hS1, hS2, hS3, hS4, hS5, hS6⟩ := hSw; go_simp; done) | rfl⟩) (by assumption) ?_
      simp only [Act.put, List.getElem_toArray, List.getElem_cons_succ, List.getElem_cons_zero, List.setIfInBounds_toArray, List.set_cons_succ, List.set_cons_zero]
      refine wpAnyH_take (i := 48) (v := .int .i64 z) rfl (by kernel_rfl) (by kernel_rfl) (by kernel_rfl) (fun _ _ _ h => h) (Or.inl ⟨by kernel_rfl, fun w hSw => by first | (go_simp; done) | (dsimp only at hSw; obtain ⟨hS0, hS1, hS2, hS3, hS4, hS5, hS6⟩ := hSw; go_simp; done) | rfl⟩) (by assumption) ?_
      simp only [Act.put, List.getElem_toArray, List.getElem_cons_succ, List.getElem_cons_zero, List.setIfInBounds_toArray, List.set_cons_succ, List.set_cons_zero]
      refine wpAnyH_take (i := 49) (v := .bool false) rfl (by kernel_rfl) (by kernel_rfl) (by kernel_rfl) (fun _ _ _ h => h) (Or.inl ⟨by kernel_rfl, fun w hSw => by first | (go_simp; done) | (dsimp only at hSw; obtain ⟨hS0, hS1, hS2, hS3, hS4, hS5, hS6⟩ := hSw; go_simp; done) | rfl⟩) (by assumption) ?_
      simp only [Act.put, List.getElem_toArray, List.getElem_cons_succ, List.getElem_cons_zero, List.setIfInBounds_toArray, List.set_cons_succ, List.set_cons_zero]
      refine wpAnyH_take (i := 50) (v := .bool false) rfl (by kernel_rfl) (by kernel_rfl) (by kernel_rfl) (fun _ _ _ h => h) (Or.inl ⟨by kernel_rfl, fun w hSw => by first | (go_simp; done) | (dsimp only at hSw; obtain ⟨hS0, hS1, hS2, hS3, hS4, hS5, hS6⟩ := hSw; go_simp; done) | rfl⟩) (by assumption) ?_
      simp only [Act.put, List.getElem_toArray, List.getElem_cons_succ, List.getElem_cons_zero, List.setIfInBounds_toArray, List.set_cons_succ, List.set_cons_zero]
      refine wpAnyH_done (by kernel_rfl) ?_ _
      have HFN : Hid (Below w1.heap.size w1 w12 ∧ Trains w12 va ts) := ⟨join_below K12 K24, T12.on K24⟩
      clear HK14 HS14 HRO K14 K24 L12 hHeld T12 K12 G12 S12 Z12
      go_wp2
      go_meet
      case rel => exact HFN.out
  case rest => as_aux_lemma =>
    clear K5 T5 R5 HIF HIR
    obtain ⟨K5, T5⟩ := hcut
    go_wp2_with fail
    refine (HSL.out _ T5).mono ?_
    rintro e w6 ⟨rfl, L6⟩
    have T6 := T5.on L6
    have K6 := join_below K5 L6
    clear T5 K5 L6 HSL
    have HNE : Hid (earB ts fr tt day mi = false → b = false) := fun h => told_not HTO.out h
    have HED : Hid (earB ts fr tt day mi = (linesB ts && (!(fr == tt) && (inB day 0 90000 && inB mi 0 1439)))) := rfl
    cases hl : linesB ts
    · obtain rfl := HNE.out (by rw [HED.out, hl]; rfl)
      clear hl
      go_wp2
      go_ret
      exact ⟨rfl, K6⟩
    by_cases hft : fr = tt
    · have ht : (fr == tt) = true := beq_iff_eq.2 hft
      obtain rfl := HNE.out (by rw [HED.out, hl, ht]; rfl)
      clear hl HTO HNE HED
      subst hft
      go_wp2
      go_ret
      exact ⟨rfl, K6⟩
    have ht : (fr == tt) = false := beq_eq_false_iff_ne.2 hft
    by_cases h1 : day < 0
    · have hin : inB day 0 90000 = false := by unfold inB; simp; omega
      have hd : decide (day < 0) = true := decide_eq_true h1
      obtain rfl := HNE.out (by rw [HED.out, hl, ht, hin]; rfl)
      clear hl hin
      go_wp2
      go_ret
      exact ⟨rfl, K6⟩
    have hd1 : decide (day < 0) = false := decide_eq_false h1
    by_cases h2 : 90000 < day
    · have hin : inB day 0 90000 = false := by unfold inB; simp; omega
      have hd : decide (90000 < day) = true := decide_eq_true h2
      obtain rfl := HNE.out (by rw [HED.out, hl, ht, hin]; rfl)
      clear hl hin
      go_wp2
      go_ret
      exact ⟨rfl, K6⟩
    have hd2 : decide (90000 < day) = false := decide_eq_false h2
    have hin : inB day 0 90000 = true := by unfold inB; simp; omega
    by_cases h3 : mi < 0
    · have hin2 : inB mi 0 1439 = false := by unfold inB; simp; omega
      have hd : decide (mi < 0) = true := decide_eq_true h3
      obtain rfl := HNE.out (by rw [HED.out, hl, ht, hin, hin2]; rfl)
      clear hl hin hin2
      go_wp2
      go_ret
      exact ⟨rfl, K6⟩
    have hd3 : decide (mi < 0) = false := decide_eq_false h3
    by_cases h4 : 1439 < mi
    · have hin2 : inB mi 0 1439 = false := by unfold inB; simp; omega
      have hd : decide (1439 < mi) = true := decide_eq_true h4
      obtain rfl := HNE.out (by rw [HED.out, hl, ht, hin, hin2]; rfl)
      clear hl hin hin2
      go_wp2
      go_ret
      exact ⟨rfl, K6⟩
    have hd4 : decide (1439 < mi) = false := decide_eq_false h4
    have hin2 : inB mi 0 1439 = true := by unfold inB; simp; omega
    have HE : Hid (earB ts fr tt day mi = true) := by show _ = _; rw [HED.out, hl, ht, hin, hin2]; rfl
    have HBD : Hid (0 ≤ day ∧ day ≤ 90000 ∧ 0 ≤ mi ∧ mi ≤ 1439) := by show _ ∧ _; omega
    have HTR : Hid (∀ W, Below w6.heap.size w6 W → Trains W va ts) := fun W K => T6.on K
    have HK6 : Hid (Below w1.heap.size w1 w6) := K6
    clear hl hin hin2 HNE HED K6 T6
    go_wp2_with fail
    clear hd1 hd2 hd3 hd4 h1 h2 h3 h4 ht hft
    have hts : ts.length ≤ 4 := HLN.out
    go_loopw [25] (fun v wr => ∃ i : Nat, v = .int .i64 i ∧ i ≤ ts.length ∧ Below w6.heap.size w6 wr) (fun v _ => ts.length - (intOf v).toNat)
    case atStart => exact ⟨0, rfl, Nat.zero_le _, Below.refl _ _⟩
    case round => as_aux_lemma =>
      obtain ⟨i, rfl, hi, Lr⟩ := hrel
      by_cases hil : i < ts.length
      · have hiI : (i : Int) < (ts.length : Int) := by omega
        obtain ⟨g0, o0, rfl⟩ := trains_some (HTR.out _ Lr) (by omega)
        obtain ⟨t, ht⟩ : ∃ t, ts[i] = t := ⟨_, rfl⟩
        have HTT : Hid (∀ W, Below w6.heap.size w6 W → ∃ bi oi ci, W.cell? ⟨g0, o0 + i * 5, none⟩ = some (.int .i64 t.h.id) ∧ W.cell? ⟨g0, o0 + i * 5 + 1, none⟩ = some (.int .i64 t.h.dy) ∧ W.cell? ⟨g0, o0 + i * 5 + 2, none⟩ = some (.int .i64 t.h.co) ∧ W.cell? ⟨g0, o0 + i * 5 + 3, none⟩ = some (.int .i64 t.h.se) ∧ W.cell? ⟨g0, o0 + i * 5 + 4, none⟩ = some (.slice (some ⟨bi, oi, none⟩) t.l.length ci) ∧ Stops W (some ⟨bi, oi, none⟩) t.l) := fun W K => by rw [← ht]; exact train_at (HTR.out W K) i hil
        have HMT : Hid (t ∈ ts) := by show _ ∈ _; rw [← ht]; exact List.getElem_mem hil
        have HXT : Hid (t.l.length ≤ maxLen) := by show _ ≤ _; have := (HST.out t HMT.out).2; unfold maxLen; omega
        clear ht
        obtain ⟨cb, co, cc, c0, c1, c2, c3, c4, cS⟩ := HTT.out _ Lr
        obtain ⟨A, hA⟩ : ∃ q, cutA t.h t.l fr tt = q := ⟨_, rfl⟩
        obtain ⟨Z, hZ⟩ : ∃ q, cutZ t.h t.l fr tt = q := ⟨_, rfl⟩
        obtain ⟨B, hB⟩ : ∃ q, cutB t.h t.l fr tt = q := ⟨_, rfl⟩
        have HCU : Hid (Calls Try.prog 14 #[Tn.trV t.h (some ⟨cb, co, none⟩) t.l.length cc, .int .i64 fr, .int .i64 tt] wr fun e w' => e = .returned (.tuple #[.int .i64 A, .int .i64 Z, .bool B]) ∧ Below wr.heap.size wr w') := by
          have := Tn.specCut_val t.h fr tt (some ⟨cb, co, none⟩) t.l cc wr HXT.out cS
          unfold Tn.cutV at this
          rw [hA, hZ, hB] at this
          exact this
        have HB : Hid (cutB t.h t.l fr tt = B ∧ cutA t.h t.l fr tt = A ∧ cutZ t.h t.l fr tt = Z) := ⟨hB, hA, hZ⟩
        clear hA hZ hB
        go_wp2_with fail
        refine HCU.out.mono ?_
        rintro e w7 ⟨rfl, L7'⟩
        have L7 := Lr.trans (L7'.mono Lr.size)
        clear c0 c1 c2 c3 c4 cS HCU L7' Lr
        go_upto_region 22 with fail
        go_cut [264] from 206 to 386 (fun s wc => s = .bool false ∧ Below w6.heap.size w6 wc)
        case first => as_aux_lemma =>
          rcases cut_two t fr tt with hB | ⟨hB, x, y, hx, hy, ha, hz, hdp, har⟩
          · obtain rfl : B = false := by rw [← HB.out.1]; exact hB
            clear hB
            go_wp2
            go_meet
            case rel => exact ⟨rfl, L7⟩
          · obtain rfl : B = true := by rw [← HB.out.1]; exact hB
            obtain rfl : A = (x : Int) := by rw [← HB.out.2.1]; exact ha
            obtain rfl : Z = (y : Int) := by rw [← HB.out.2.2]; exact hz
            have HPQ : Hid (cutB t.h t.l fr tt = true ∧ x < t.l.length ∧ y < t.l.length ∧ cutA t.h t.l fr tt = x ∧ cutZ t.h t.l fr tt = y) := ⟨hB, hx, hy, ha, hz⟩
            rw [Tn.getD_at _ x hx] at hdp
            rw [Tn.getD_at _ y hy] at har
            have HDA : Hid (∀ W : World, ∀ b o, Stops W (some ⟨b, o, none⟩) t.l → W.cell? ⟨b, o + x * 3 + 2, none⟩ = some (.int .i64 (t.l[x]'hx).dp) ∧ W.cell? ⟨b, o + y * 3 + 1, none⟩ = some (.int .i64 (t.l[y]'hy).ar)) := fun W b o S => ⟨(stop_at S x hx).2.2, (stop_at S y hy).2.1⟩
            have HDO : Hid (runsB t.h t.l day = true → mi ≤ (t.l[x]'hx).dp → b = true ∧ z ≤ 1440 * day + (t.l[y]'hy).ar) := fun hr hd => dir_ok HTO.out HE.out HMT.out hB hr hx hy ha hz hd
            have hxI : (x : Int) < (t.l.length : Int) := by omega
            have hyI : (y : Int) < (t.l.length : Int) := by omega
            obtain ⟨dp, hdp'⟩ : ∃ q, (t.l[x]'hx).dp = q := ⟨_, rfl⟩
            obtain ⟨ar, har'⟩ : ∃ q, (t.l[y]'hy).ar = q := ⟨_, rfl⟩
            rw [hdp'] at HDA HDO hdp
            rw [har'] at HDA HDO har
            clear hdp' har' ha hz hB HB HPQ
            obtain ⟨cb, co, cc, c0, c1, c2, c3, c4, cS⟩ := HTT.out _ L7
            have HRU : Hid (Calls Try.prog 15 _ _ _) := Tn.specRuns_val t.h day (some ⟨cb, co, none⟩) t.l cc w7 HXT.out cS
            cases hr : runsB t.h t.l day
            · rw [hr] at HRU
              clear hr HDO
              go_wp2_with fail
              refine HRU.out.mono ?_
              rintro e w8 ⟨rfl, L8⟩
              have M8 := L7.trans (L8.mono L7.size)
              clear c0 c1 c2 c3 c4 cS HRU L8
              go_wp2
              go_meet
              case rel => exact ⟨rfl, M8⟩
            · rw [hr] at HRU
              have HDQ := HDO.out hr
              have HDW : Hid (mi ≤ dp → b = true ∧ z ≤ 1440 * day + ar) := HDQ
              clear hr HDO HDQ
              go_wp2_with fail
              refine HRU.out.mono ?_
              rintro e w8 ⟨rfl, L8⟩
              have M8 := L7.trans (L8.mono L7.size)
              clear c0 c1 c2 c3 c4 cS HRU L8
              obtain ⟨db, doo, dc, d0, d1, d2, d3, d4, dS⟩ := HTT.out _ M8
              obtain ⟨e0, e1⟩ := HDA.out _ _ _ dS
              by_cases hm : mi ≤ dp
              · have hmd : decide (mi ≤ dp) = true := decide_eq_true hm
                obtain ⟨rfl, hzz⟩ := HDW.out hm
                have hwq : IntKind.i64.wrap (1440 * day) = 1440 * day := by rw [IntKind.wrap_i64]; have := HBD.out; omega
                have hwr : IntKind.i64.wrap (1440 * day + ar) = 1440 * day + ar := by rw [IntKind.wrap_i64]; have := HBD.out; omega
                have hzd : decide (1440 * day + ar < z) = false := decide_eq_false (by omega)
                clear hzz hdp har HDW
                go_wp2
                go_meet
                case rel => exact ⟨rfl, M8⟩
              · have hmd : decide (mi ≤ dp) = false := decide_eq_false hm
                clear HDW hdp har
                go_wp2
                go_meet
                case rel => exact ⟨rfl, M8⟩
        case rest => as_aux_lemma =>
          clear L7 HB
          obtain ⟨rfl, L8⟩ := hcut
          go_wp2_with fail
          go_loopw [29] (fun v wk => ∃ k : Nat, v = .int .i64 k ∧ k ≤ ts.length ∧ Below w6.heap.size w6 wk) (fun v _ => ts.length - (intOf v).toNat)
          case atStart => exact ⟨0, rfl, Nat.zero_le _, L8⟩
          case round => as_aux_lemma =>
            clear L8
            obtain ⟨k, rfl, hk, Lk⟩ := hrel
            by_cases hkl : k < ts.length
            · have hkI : (k : Int) < (ts.length : Int) := by omega
              obtain ⟨u, hu⟩ : ∃ u, ts[k] = u := ⟨_, rfl⟩
              have HTU : Hid (∀ W, Below w6.heap.size w6 W → ∃ bi oi ci, W.cell? ⟨g0, o0 + k * 5, none⟩ = some (.int .i64 u.h.id) ∧ W.cell? ⟨g0, o0 + k * 5 + 1, none⟩ = some (.int .i64 u.h.dy) ∧ W.cell? ⟨g0, o0 + k * 5 + 2, none⟩ = some (.int .i64 u.h.co) ∧ W.cell? ⟨g0, o0 + k * 5 + 3, none⟩ = some (.int .i64 u.h.se) ∧ W.cell? ⟨g0, o0 + k * 5 + 4, none⟩ = some (.slice (some ⟨bi, oi, none⟩) u.l.length ci) ∧ Stops W (some ⟨bi, oi, none⟩) u.l) := fun W K => by rw [← hu]; exact train_at (HTR.out W K) k hkl
              have HMU : Hid (u ∈ ts) := by show _ ∈ _; rw [← hu]; exact List.getElem_mem hkl
              have HXU : Hid (u.l.length ≤ maxLen) := by show _ ≤ _; have := (HST.out u HMU.out).2; unfold maxLen; omega
              clear hu
              have htl : t.l.length ≤ 5 := (HST.out t HMT.out).2
              go_wp2_with fail
              go_loopw [30] (fun v ws => ∃ s : Nat, v = .int .i64 s ∧ s ≤ t.l.length ∧ Below w6.heap.size w6 ws) (fun v _ => t.l.length - (intOf v).toNat)
              case atStart => exact ⟨0, rfl, Nat.zero_le _, Lk⟩
              case round => as_aux_lemma =>
                clear Lk
                obtain ⟨s, rfl, hs, Ls⟩ := hrel
                obtain ⟨cb, co, cc, c0, c1, c2, c3, c4, cS⟩ := HTT.out _ Ls
                by_cases hsl : s < t.l.length
                · have hsI : (s : Int) < (t.l.length : Int) := by omega
                  obtain ⟨st0, -, -⟩ := stop_at cS s hsl
                  obtain ⟨mid, hmid⟩ : ∃ q, t.l[s].st = q := ⟨_, rfl⟩
                  rw [hmid] at st0
                  clear hmid
                  obtain ⟨A1, hA⟩ : ∃ q, cutA t.h t.l fr mid = q := ⟨_, rfl⟩
                  obtain ⟨Z1, hZ⟩ : ∃ q, cutZ t.h t.l fr mid = q := ⟨_, rfl⟩
                  obtain ⟨B1, hB⟩ : ∃ q, cutB t.h t.l fr mid = q := ⟨_, rfl⟩
                  have HCU : Hid (Calls Try.prog 14 #[Tn.trV t.h (some ⟨cb, co, none⟩) t.l.length cc, .int .i64 fr, .int .i64 mid] wr fun e w' => e = .returned (.tuple #[.int .i64 A1, .int .i64 Z1, .bool B1]) ∧ Below wr.heap.size wr w') := by
                    have := Tn.specCut_val t.h fr mid (some ⟨cb, co, none⟩) t.l cc wr HXT.out cS
                    unfold Tn.cutV at this
                    rw [hA, hZ, hB] at this
                    exact this
                  have HB1 : Hid (cutB t.h t.l fr mid = B1 ∧ cutA t.h t.l fr mid = A1 ∧ cutZ t.h t.l fr mid = Z1) := ⟨hB, hA, hZ⟩
                  clear hA hZ hB
                  go_wp2_with fail
                  refine HCU.out.mono ?_
                  rintro e v1 ⟨rfl, L1⟩
                  have M1 := Ls.trans (L1.mono Ls.size)
                  clear c0 c1 c2 c3 c4 cS HCU L1 Ls st0
                  obtain ⟨db, doo, dc, d0, d1, d2, d3, d4, dS⟩ := HTU.out _ M1
                  obtain ⟨A2, hA⟩ : ∃ q, cutA u.h u.l mid tt = q := ⟨_, rfl⟩
                  obtain ⟨Z2, hZ⟩ : ∃ q, cutZ u.h u.l mid tt = q := ⟨_, rfl⟩
                  obtain ⟨B2, hB⟩ : ∃ q, cutB u.h u.l mid tt = q := ⟨_, rfl⟩
                  have HCU : Hid (Calls Try.prog 14 #[Tn.trV u.h (some ⟨db, doo, none⟩) u.l.length dc, .int .i64 mid, .int .i64 tt] v1 fun e w' => e = .returned (.tuple #[.int .i64 A2, .int .i64 Z2, .bool B2]) ∧ Below v1.heap.size v1 w') := by
                    have := Tn.specCut_val u.h mid tt (some ⟨db, doo, none⟩) u.l dc v1 HXU.out dS
                    unfold Tn.cutV at this
                    rw [hA, hZ, hB] at this
                    exact this
                  have HB2 : Hid (cutB u.h u.l mid tt = B2 ∧ cutA u.h u.l mid tt = A2 ∧ cutZ u.h u.l mid tt = Z2) := ⟨hB, hA, hZ⟩
                  clear hA hZ hB
                  go_wp2_with fail
                  refine HCU.out.mono ?_
                  rintro e v2 ⟨rfl, L2⟩
                  have M2 := M1.trans (L2.mono M1.size)
                  clear d0 d1 d2 d3 d4 dS HCU L2 M1
                  rcases cut_two t fr mid with hB | ⟨hB, x, y, hx, hy, ha, hz, hdp, har⟩
                  · as_aux_lemma =>
                      obtain rfl : B1 = false := by rw [← HB1.out.1]; exact hB
                      clear hB HB1 HB2
                      go_upto_region 33 with fail
                      simp only [List.append_eq, List.cons_append, List.nil_append]
                      go_quiet (fail)
                      go_wp2
                      go_roundw
                      case rel => exact ⟨s + 1, by go_num, by omega, M2.trans ((drewN_below v2 nq).mono M2.size)⟩
                      case measure => simp [intOf]; omega
                  · obtain rfl : B1 = true := by rw [← HB1.out.1]; exact hB
                    obtain rfl : A1 = (x : Int) := by rw [← HB1.out.2.1]; exact ha
                    obtain rfl : Z1 = (y : Int) := by rw [← HB1.out.2.2]; exact hz
                    rcases cut_two u mid tt with hB' | ⟨hB', x', y', hx', hy', ha', hz', hdp', har'⟩
                    · as_aux_lemma =>
                        obtain rfl : B2 = false := by rw [← HB2.out.1]; exact hB'
                        clear hB hB' ha hz hdp har HB1 HB2
                        go_upto_region 33 with fail
                        simp only [List.append_eq, List.cons_append, List.nil_append]
                        go_quiet (fail)
                        go_wp2
                        go_roundw
                        case rel => exact ⟨s + 1, by go_num, by omega, M2.trans ((drewN_below v2 nq).mono M2.size)⟩
                        case measure => simp [intOf]; omega
                    · as_aux_lemma =>
                        obtain rfl : B2 = true := by rw [← HB2.out.1]; exact hB'
                        obtain rfl : A2 = (x' : Int) := by rw [← HB2.out.2.1]; exact ha'
                        obtain rfl : Z2 = (y' : Int) := by rw [← HB2.out.2.2]; exact hz'
                        rw [Tn.getD_at _ x hx] at hdp
                        rw [Tn.getD_at _ y hy] at har
                        rw [Tn.getD_at _ x' hx'] at hdp'
                        rw [Tn.getD_at _ y' hy'] at har'
                        have HDA : Hid (∀ W : World, ∀ b o, Stops W (some ⟨b, o, none⟩) t.l → W.cell? ⟨b, o + x * 3 + 2, none⟩ = some (.int .i64 (t.l[x]'hx).dp) ∧ W.cell? ⟨b, o + y * 3 + 1, none⟩ = some (.int .i64 (t.l[y]'hy).ar)) := fun W b o S => ⟨(stop_at S x hx).2.2, (stop_at S y hy).2.1⟩
                        have HDB : Hid (∀ W : World, ∀ b o, Stops W (some ⟨b, o, none⟩) u.l → W.cell? ⟨b, o + x' * 3 + 2, none⟩ = some (.int .i64 (u.l[x']'hx').dp) ∧ W.cell? ⟨b, o + y' * 3 + 1, none⟩ = some (.int .i64 (u.l[y']'hy').ar)) := fun W b o S => ⟨(stop_at S x' hx').2.2, (stop_at S y' hy').2.1⟩
                        have HDO : Hid (runsB t.h t.l day = true → runsB u.h u.l day = true → mi ≤ (t.l[x]'hx).dp → (t.l[y]'hy).ar + 3 ≤ (u.l[x']'hx').dp → b = true ∧ z ≤ 1440 * day + (u.l[y']'hy').ar) := fun hr hr2 hd hd2 => two_ok HTO.out HE.out HMT.out HMU.out hB hB' hr hr2 hx hy hx' hy' ha hz ha' hz' hd hd2
                        have hxI : (x : Int) < (t.l.length : Int) := by omega
                        have hyI : (y : Int) < (t.l.length : Int) := by omega
                        have hxJ : (x' : Int) < (u.l.length : Int) := by omega
                        have hyJ : (y' : Int) < (u.l.length : Int) := by omega
                        obtain ⟨dp, qdp⟩ : ∃ q, (t.l[x]'hx).dp = q := ⟨_, rfl⟩
                        obtain ⟨ar, qar⟩ : ∃ q, (t.l[y]'hy).ar = q := ⟨_, rfl⟩
                        obtain ⟨dp2, qdp2⟩ : ∃ q, (u.l[x']'hx').dp = q := ⟨_, rfl⟩
                        obtain ⟨ar2, qar2⟩ : ∃ q, (u.l[y']'hy').ar = q := ⟨_, rfl⟩
                        rw [qdp] at HDA HDO hdp
                        rw [qar] at HDA HDO har
                        rw [qdp2] at HDB HDO hdp'
                        rw [qar2] at HDB HDO har'
                        have HAR : Hid ((0 ≤ ar ∧ ar ≤ 4000) ∧ (0 ≤ ar2 ∧ ar2 ≤ 4000)) := ⟨har, har'⟩
                        clear qdp qar qdp2 qar2 ha hz ha' hz' hB hB' HB1 HB2 hdp har hdp' har'
                        obtain ⟨cb, co, cc, c0, c1, c2, c3, c4, cS⟩ := HTT.out _ M2
                        obtain ⟨db, doo, dc, d0, d1, d2, d3, d4, dS⟩ := HTU.out _ M2
                        obtain ⟨e0, e1⟩ := HDA.out _ _ _ cS
                        obtain ⟨f0, f1⟩ := HDB.out _ _ _ dS
                        have k0 : ∀ d os, (Go.Sort.grow (redrawn v2 d) os).cell? ⟨g0, o0 + i * 5, none⟩ = some (.int .i64 t.h.id) := fun d os => cell_regrown c0 d os
                        have k1 : ∀ d os, (Go.Sort.grow (redrawn v2 d) os).cell? ⟨g0, o0 + i * 5 + 1, none⟩ = some (.int .i64 t.h.dy) := fun d os => cell_regrown c1 d os
                        have k2 : ∀ d os, (Go.Sort.grow (redrawn v2 d) os).cell? ⟨g0, o0 + i * 5 + 2, none⟩ = some (.int .i64 t.h.co) := fun d os => cell_regrown c2 d os
                        have k3 : ∀ d os, (Go.Sort.grow (redrawn v2 d) os).cell? ⟨g0, o0 + i * 5 + 3, none⟩ = some (.int .i64 t.h.se) := fun d os => cell_regrown c3 d os
                        have k4 : ∀ d os, (Go.Sort.grow (redrawn v2 d) os).cell? ⟨g0, o0 + i * 5 + 4, none⟩ = some (.slice (some ⟨cb, co, none⟩) t.l.length cc) := fun d os => cell_regrown c4 d os
                        have k5 : ∀ d os, (Go.Sort.grow (redrawn v2 d) os).cell? ⟨g0, o0 + k * 5, none⟩ = some (.int .i64 u.h.id) := fun d os => cell_regrown d0 d os
                        have k6 : ∀ d os, (Go.Sort.grow (redrawn v2 d) os).cell? ⟨g0, o0 + k * 5 + 1, none⟩ = some (.int .i64 u.h.dy) := fun d os => cell_regrown d1 d os
                        have k7 : ∀ d os, (Go.Sort.grow (redrawn v2 d) os).cell? ⟨g0, o0 + k * 5 + 2, none⟩ = some (.int .i64 u.h.co) := fun d os => cell_regrown d2 d os
                        have k8 : ∀ d os, (Go.Sort.grow (redrawn v2 d) os).cell? ⟨g0, o0 + k * 5 + 3, none⟩ = some (.int .i64 u.h.se) := fun d os => cell_regrown d3 d os
                        have k9 : ∀ d os, (Go.Sort.grow (redrawn v2 d) os).cell? ⟨g0, o0 + k * 5 + 4, none⟩ = some (.slice (some ⟨db, doo, none⟩) u.l.length dc) := fun d os => cell_regrown d4 d os
                        have k10 : ∀ d os, (Go.Sort.grow (redrawn v2 d) os).cell? ⟨cb, co + x * 3 + 2, none⟩ = some (.int .i64 dp) := fun d os => cell_regrown e0 d os
                        have k11 : ∀ d os, (Go.Sort.grow (redrawn v2 d) os).cell? ⟨cb, co + y * 3 + 1, none⟩ = some (.int .i64 ar) := fun d os => cell_regrown e1 d os
                        have k12 : ∀ d os, (Go.Sort.grow (redrawn v2 d) os).cell? ⟨db, doo + x' * 3 + 2, none⟩ = some (.int .i64 dp2) := fun d os => cell_regrown f0 d os
                        have k13 : ∀ d os, (Go.Sort.grow (redrawn v2 d) os).cell? ⟨db, doo + y' * 3 + 1, none⟩ = some (.int .i64 ar2) := fun d os => cell_regrown f1 d os
                        have HRU0 : Hid (∀ W, Below v2.heap.size v2 W → _) := fun W K => Tn.specRuns_val t.h day (some ⟨cb, co, none⟩) t.l cc W HXT.out (cS.on K)
                        have HRV0 : Hid (∀ W, Below v2.heap.size v2 W → _) := fun W K => Tn.specRuns_val u.h day (some ⟨db, doo, none⟩) u.l dc W HXU.out (dS.on K)
                        clear c0 c1 c2 c3 c4 d0 d1 d2 d3 d4 e0 e1 f0 f1 cS dS HDA HDB hx hy hx' hy'
                        go_upto_region 33 with fail
                        simp only [List.append_eq, List.cons_append, List.nil_append]
                        cases hr : runsB t.h t.l day
                        · as_aux_lemma =>
                            have cU : ∀ d os, Calls Try.prog 15 #[Tn.trV t.h (some ⟨cb, co, none⟩) t.l.length cc, .int .i64 day] (Go.Sort.grow (redrawn v2 d) os) fun e w'' => e = .returned (.bool false) ∧ ∃ p : Regrown, w'' = Go.Sort.grow (redrawn v2 p.d) p.os := fun d os => by
                              have := Calls.regrown_of (HRU0.out _ (below_regrown v2 d os))
                              rw [hr] at this
                              exact this
                            clear hr HDO HRU0 HRV0
                            refine wp_region_quiet_below (by kernel_rfl) (by kernel_rfl) ?_
                            repeat (go_big_quiet_step (exact cU _ _))
                            refine wpQuiet_nil ?_
                            intro _ hw'
                            obtain ⟨⟨dq, osq⟩, hw''⟩ := hw'
                            subst hw''
                            clear k0 k1 k2 k3 k4 k5 k6 k7 k8 k9 k10 k11 k12 k13
                            go_wp2
                            go_roundw
                            case rel => exact ⟨s + 1, by go_num, by omega, M2.trans ((below_regrown v2 dq osq).mono M2.size)⟩
                            case measure => simp [intOf]; omega
                        · have cU : ∀ d os, Calls Try.prog 15 #[Tn.trV t.h (some ⟨cb, co, none⟩) t.l.length cc, .int .i64 day] (Go.Sort.grow (redrawn v2 d) os) fun e w'' => e = .returned (.bool true) ∧ ∃ p : Regrown, w'' = Go.Sort.grow (redrawn v2 p.d) p.os := fun d os => by
                            have := Calls.regrown_of (HRU0.out _ (below_regrown v2 d os))
                            rw [hr] at this
                            exact this
                          have HDO2 : Hid (runsB u.h u.l day = true → mi ≤ dp → ar + 3 ≤ dp2 → b = true ∧ z ≤ 1440 * day + ar2) := HDO.out hr
                          clear hr HDO HRU0
                          cases hr : runsB u.h u.l day
                          · as_aux_lemma =>
                              have cV : ∀ d os, Calls Try.prog 15 #[Tn.trV u.h (some ⟨db, doo, none⟩) u.l.length dc, .int .i64 day] (Go.Sort.grow (redrawn v2 d) os) fun e w'' => e = .returned (.bool false) ∧ ∃ p : Regrown, w'' = Go.Sort.grow (redrawn v2 p.d) p.os := fun d os => by
                                have := Calls.regrown_of (HRV0.out _ (below_regrown v2 d os))
                                rw [hr] at this
                                exact this
                              clear hr HDO2 HRV0
                              refine wp_region_quiet_below (by kernel_rfl) (by kernel_rfl) ?_
                              iterate 17 (go_big_quiet_step (exact cU _ _))
                              clear cU
                              repeat (go_big_quiet_step (exact cV _ _))
                              refine wpQuiet_nil ?_
                              intro _ hw'
                              obtain ⟨⟨dq, osq⟩, hw''⟩ := hw'
                              subst hw''
                              clear k0 k1 k2 k3 k4 k5 k6 k7 k8 k9 k10 k11 k12 k13
                              go_wp2
                              go_roundw
                              case rel => exact ⟨s + 1, by go_num, by omega, M2.trans ((below_regrown v2 dq osq).mono M2.size)⟩
                              case measure => simp [intOf]; omega
                          · have cV : ∀ d os, Calls Try.prog 15 #[Tn.trV u.h (some ⟨db, doo, none⟩) u.l.length dc, .int .i64 day] (Go.Sort.grow (redrawn v2 d) os) fun e w'' => e = .returned (.bool true) ∧ ∃ p : Regrown, w'' = Go.Sort.grow (redrawn v2 p.d) p.os := fun d os => by
                              have := Calls.regrown_of (HRV0.out _ (below_regrown v2 d os))
                              rw [hr] at this
                              exact this
                            have HDO3 : Hid (mi ≤ dp → ar + 3 ≤ dp2 → b = true ∧ z ≤ 1440 * day + ar2) := HDO2.out hr
                            clear hr HDO2 HRV0
                            by_cases hm : mi ≤ dp
                            · have hmd : decide (mi ≤ dp) = true := decide_eq_true hm
                              have HM1 : Hid (mi ≤ dp) := hm
                              clear hm
                              have hws : IntKind.i64.wrap (ar + 3) = ar + 3 := by rw [IntKind.wrap_i64]; have := HAR.out; omega
                              by_cases hm2 : ar + 3 ≤ dp2
                              · as_aux_lemma =>
                                  have hmd2 : decide (ar + 3 ≤ dp2) = true := decide_eq_true hm2
                                  obtain ⟨rfl, hzz⟩ := HDO3.out HM1.out hm2
                                  have hwq : IntKind.i64.wrap (1440 * day) = 1440 * day := by rw [IntKind.wrap_i64]; have := HBD.out; omega
                                  have hwr : IntKind.i64.wrap (1440 * day + ar2) = 1440 * day + ar2 := by rw [IntKind.wrap_i64]; have := HBD.out; have := HAR.out; omega
                                  have hzd : decide (1440 * day + ar2 < z) = false := decide_eq_false (by omega)
                                  clear hzz HDO3 hm2
                                  refine wp_region_quiet_below (by kernel_rfl) (by kernel_rfl) ?_
                                  iterate 17 (go_big_quiet_step (exact cU _ _))
                                  clear cU
                                  repeat (go_big_quiet_step (exact cV _ _))
                                  refine wpQuiet_nil ?_
                                  intro _ hw'
                                  obtain ⟨⟨dq, osq⟩, hw''⟩ := hw'
                                  subst hw''
                                  clear k0 k1 k2 k3 k4 k5 k6 k7 k8 k9 k10 k11 k12 k13
                                  go_wp2
                                  go_roundw
                                  case rel => exact ⟨s + 1, by go_num, by omega, M2.trans ((below_regrown v2 dq osq).mono M2.size)⟩
                                  case measure => simp [intOf]; omega
                              · as_aux_lemma =>
                                  have hmd2 : decide (ar + 3 ≤ dp2) = false := decide_eq_false hm2
                                  clear HDO3 hm2
                                  refine wp_region_quiet_below (by kernel_rfl) (by kernel_rfl) ?_
                                  iterate 17 (go_big_quiet_step (exact cU _ _))
                                  clear cU
                                  repeat (go_big_quiet_step (exact cV _ _))
                                  refine wpQuiet_nil ?_
                                  intro _ hw'
                                  obtain ⟨⟨dq, osq⟩, hw''⟩ := hw'
                                  subst hw''
                                  clear k0 k1 k2 k3 k4 k5 k6 k7 k8 k9 k10 k11 k12 k13
                                  go_wp2
                                  go_roundw
                                  case rel => exact ⟨s + 1, by go_num, by omega, M2.trans ((below_regrown v2 dq osq).mono M2.size)⟩
                                  case measure => simp [intOf]; omega
                            · as_aux_lemma =>
                                have hmd : decide (mi ≤ dp) = false := decide_eq_false hm
                                clear HDO3 hm
                                refine wp_region_quiet_below (by kernel_rfl) (by kernel_rfl) ?_
                                iterate 17 (go_big_quiet_step (exact cU _ _))
                                clear cU
                                repeat (go_big_quiet_step (exact cV _ _))
                                refine wpQuiet_nil ?_
                                intro _ hw'
                                obtain ⟨⟨dq, osq⟩, hw''⟩ := hw'
                                subst hw''
                                clear k0 k1 k2 k3 k4 k5 k6 k7 k8 k9 k10 k11 k12 k13
                                go_wp2
                                go_roundw
                                case rel => exact ⟨s + 1, by go_num, by omega, M2.trans ((below_regrown v2 dq osq).mono M2.size)⟩
                                case measure => simp [intOf]; omega
                · obtain rfl : s = t.l.length := by omega
                  go_wp2
                  go_roundw
                  case rel => exact ⟨k + 1, by go_num, by omega, Ls⟩
                  case measure => simp [intOf]; omega
            · obtain rfl : k = ts.length := by omega
              go_wp2
              go_roundw
              case rel => exact ⟨i + 1, by go_num, by omega, Lk⟩
              case measure => simp [intOf]; omega
      · obtain rfl : i = ts.length := by omega
        go_wp2
        go_ret
        exact ⟨rfl, HK6.out.trans (Lr.mono HK6.out.size)⟩

end Rd
end Go.Proofs.Ytfoccmhmgdengaa

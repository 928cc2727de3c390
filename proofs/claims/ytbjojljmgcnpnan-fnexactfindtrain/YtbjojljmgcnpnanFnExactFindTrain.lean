/- For every list of trains and every number the law of FindTrain answers true: the program's FindTrain and its model return the same train, in memory of its own, and nothing of the list is turned. No condition. -/
import Derived.Test.YtbjojljmgcnpnanErrs
import Derived.ShutString
import Derived.Lib.SmallJoins
import Derived.Test.YtbjojljmgcnpnanTnMark
namespace Go.Proofs.Ytbjojljmgcnpnan.fnExactFindTrain
open Go.ChangeShapes Go.WideShapes Go.ChangeAt Go.RowKit Go.Joins
open Go.ChangeMaps (open_string shut_string)
set_option linter.unusedVariables false

/-- What is found, as a train. -/
def rT (r : Option Tn.Tr) : Tn.Tr := match r with
  | some t => t
  | none => ⟨⟨0, 0, 0, 0⟩, []⟩

theorem rT_len {ts : List Tn.Tr} (h : Tn.bulk ts ≤ 1048576) (id : Int) : (rT (Tn.fnd ts id)).l.length ≤ 1048576 := by
  cases hf : Tn.fnd ts id with
  | none => simp [rT]
  | some t =>
    have hm : t ∈ ts := List.mem_of_find?_eq_some hf
    obtain ⟨i, hi, rfl⟩ := List.getElem_of_mem hm
    exact (Tn.bulk_le h i hi).2

theorem found_any {w w' : World} {r : Option Tn.Tr} {e : Ending} (h : Tn.Found w w' r e) : ∃ va vc, e = .returned (.tuple #[Tn.trV (rT r).h va (rT r).l.length vc, .bool r.isSome]) ∧ w'.ownsRow w.heap.size 63 3 (.slice va (rT r).l.length vc) (rT r).l.length (Tn.scells (rT r).l) := by
  cases r with
  | none => exact ⟨none, 0, h, rfl, Or.inl ⟨rfl, rfl⟩⟩
  | some t =>
    obtain ⟨v, he, ho⟩ := h
    obtain ⟨va, vc, rfl, -⟩ := Pk.own_form ho
    exact ⟨va, vc, he, ho⟩

theorem own_room {w : World} {base n cap : Nat} {a : Option Addr} {l : List Tn.St} (h : w.ownsRow base 63 3 (.slice a n cap) n (Tn.scells l)) : n = 0 ∨ ∃ g, a = some ⟨g, 0, none⟩ ∧ Pk.Room w g (n * 3) ∧ base ≤ g ∧ g < w.heap.size := by
  obtain ⟨hl, h2⟩ := h
  rcases h2 with ⟨-, h0⟩ | ⟨g, cap', cur, hv, hg, hh, h1, h3, h4, h5⟩
  · exact Or.inl h0
  · simp only [Value.slice.injEq] at hv
    obtain ⟨rfl, -, rfl⟩ := hv
    refine Or.inr ⟨g, rfl, fun j hj => ⟨⟨cur[j]'(by rw [h4]; have := Nat.mul_le_mul_right 3 h1; omega), ?_⟩, Pk.frozen_at hh j⟩, hg, Pk.lt_of hh⟩
    rw [Pk.cell_at hh]
    exact Array.getElem?_eq_getElem _


set_option maxRecDepth 100000 in
set_option maxHeartbeats 4000000 in
theorem walk (a0 : Option Addr) (cap0 : Nat) (z0 : List Tn.Tr) (a1 : Int) (w1 : (Lit.int .i64 a1).wf = true) (w : World) (w0 : Tn.TrainsA w a0 z0 ∧ z0.length ≤ maxLen ∧ ∀ i (h : i < z0.length), z0[i].l.length ≤ maxLen)   :
    Calls Try.prog 7 #[.slice a0 z0.length cap0, .int .i64 a1] w fun e w' => e = .returned (.bool true) ∧ Below w.heap.size w w' := by
  obtain ⟨I, hn, hs⟩ := w0
  by_cases hb : Tn.bulk z0 ≤ 1048576
  · have hd : decide (1048576 - (Tn.bulk z0 : Int) < 0) = false := decide_eq_false (by omega)
    have HB : Hid (Tn.bulk z0 ≤ 1048576) := hb
    have HN : Hid (z0.length ≤ 1048576) := by unfold Tn.bulk at hb; show _ ≤ _; omega
    have HS : Hid (∀ i (h : i < z0.length), z0[i].l.length ≤ 1048576) := fun i h => (Tn.bulk_le hb i h).2
    have hq : (rT (Tn.fnd z0 a1)).l.length ≤ 1048576 := rT_len hb a1
    clear hn hs hb
    go_enter Try.func7, Try.ntmps7
    go_wp2_with fail
    refine (Tn.szTrainS_yes a0 z0 cap0 _ HB.out I).mono ?_
    rintro e w1 ⟨rfl, L1⟩
    go_wp2_with fail
    refine (Tn.toTrainS_val a0 z0 cap0 _ HB.out (I.on L1)).mono ?_
    rintro e w2 ⟨rfl, L2, hl2, M2⟩
    have T2 := M2.trains hl2
    have K2 := Pk.join_below L1 L2
    clear M2 L1 L2 hl2
    go_wp2_with fail
    refine (Tn.specFind_val _ z0 _ a1 _ HN.out HS.out T2).mono ?_
    rintro e w3 ⟨F3, L3⟩
    obtain ⟨va, vc, rfl, O3⟩ := found_any F3
    have K3 := Pk.join_below K2 L3
    clear F3 L3 T2 K2
    have HFI : Hid (∀ (a : Option Addr) (cap : Nat) (w : World), Tn.Trains w a z0 → Calls Try.prog 24 #[.slice a z0.length cap, .int .i64 a1] w fun e w' => (∃ va vc, e = .returned (.tuple #[Tn.trV (rT (Tn.fnd z0 a1)).h va (rT (Tn.fnd z0 a1)).l.length vc, .bool (Tn.fnd z0 a1).isSome]) ∧ w'.ownsRow w.heap.size 63 3 (.slice va (rT (Tn.fnd z0 a1)).l.length vc) (rT (Tn.fnd z0 a1)).l.length (Tn.scells (rT (Tn.fnd z0 a1)).l)) ∧ Below w.heap.size w w') := by
      intro a cap w T
      refine (Tn.implFind_val a z0 cap a1 w HN.out HS.out T).mono ?_
      rintro e w' ⟨F, L⟩
      exact ⟨found_any F, L⟩
    generalize (Tn.fnd z0 a1).isSome = cb at *
    generalize rT (Tn.fnd z0 a1) = t at *
    obtain ⟨p, q⟩ := t
    dsimp only at O3 HFI hq
    have N4 := Pk.new_below w3 (Tn.trB p va q.length vc 29)
    have m6 := Pk.heap_new w3 (Tn.trB p va q.length vc 29)
    have K4 := Pk.join_below K3 N4
    have O4 := Pk.own_below O3 N4 (Nat.le_refl _)
    have HO4 : Hid (∀ k, (Value.slice va q.length vc).ownBlock = some k → k < w3.heap.size) := fun k hk => (O3.lt k hk).2
    have HS4 : Hid ((w3.alloc (Tn.trB p va q.length vc 29)).heap.size = w3.heap.size + 1) := Array.size_push ..
    have HK3 : Hid (w.heap.size ≤ w3.heap.size) := K3.size
    clear O3 N4 K3
    go_wp2_with fail
    refine (Tn.toTrainS_val a0 z0 cap0 _ HB.out (I.on K4)).mono ?_
    rintro e w5 ⟨he, L5, hl5, M5⟩
    have K5 := Pk.join_below K4 L5
    have n6 := Pk.kept L5 (Pk.lt_of m6) m6
    have O5 := Pk.own_below O4 L5 (Nat.le_refl _)
    rw [HS4.out] at he hl5 M5
    subst he
    have T5 := M5.trains hl5
    have Q5 := M5.mk
    clear m6 O4 M5 K4 L5 HS4
    go_wp2_with fail
    refine (HFI.out _ _ _ T5).mono ?_
    rintro e w6 ⟨⟨ua, uc, rfl, O6⟩, L6⟩
    have K6 := Pk.join_below K5 L6
    have m6 := Pk.kept L6 (Pk.lt_of n6) n6
    have P6 := Pk.own_below O5 L6 (Nat.le_refl _)
    have T6 := T5.on L6
    have Q6 := Q5.on L6 hl5 (Nat.le_refl _)
    have hl6 := Nat.lt_of_lt_of_le hl5 L6.size
    have hhi := L6.size
    clear n6 O5 T5 Q5 K5 L6
    have N7 := Pk.new_below w6 (Tn.trB p ua q.length uc 29)
    have m9 := Pk.heap_new w6 (Tn.trB p ua q.length uc 29)
    have K7 := Pk.join_below K6 N7
    have m7 := Pk.kept N7 (Pk.lt_of m6) m6
    have P7 := Pk.own_below P6 N7 (Nat.le_refl _)
    have O7 := Pk.own_below O6 N7 (Nat.le_refl _)
    have T7 := T6.on N7
    have Q7 := Q6.on N7 hl6 hhi
    have HS7 : Hid ((w6.alloc (Tn.trB p ua q.length uc 29)).heap.size = w6.heap.size + 1) := Array.size_push ..
    have HO7 : Hid (∀ k, (Value.slice ua q.length uc).ownBlock = some k → w5.heap.size ≤ k ∧ k < w6.heap.size) := fun k hk => O6.lt k hk
    clear m6 P6 O6 T6 Q6 N7 K6
    have c0 : (w6.alloc (Tn.trB p ua q.length uc 29)).cell? ⟨w3.heap.size, 0, none⟩ = some (.int .i64 p.id) := Pk.cell_at m7 0
    have c1 : (w6.alloc (Tn.trB p ua q.length uc 29)).cell? ⟨w3.heap.size, 1, none⟩ = some (.int .i64 p.dy) := Pk.cell_at m7 1
    have c2 : (w6.alloc (Tn.trB p ua q.length uc 29)).cell? ⟨w3.heap.size, 2, none⟩ = some (.int .i64 p.co) := Pk.cell_at m7 2
    have c3 : (w6.alloc (Tn.trB p ua q.length uc 29)).cell? ⟨w3.heap.size, 3, none⟩ = some (.int .i64 p.se) := Pk.cell_at m7 3
    have c4 : (w6.alloc (Tn.trB p ua q.length uc 29)).cell? ⟨w3.heap.size, 4, none⟩ = some (.slice va q.length vc) := Pk.cell_at m7 4
    go_wp2_with fail
    refine (Tn.eqTrain_same p ua va q uc vc _ hq (Tn.stops_own O7) (Tn.stops_own P7)).mono ?_
    rintro e w8 ⟨rfl, L8⟩
    have K8 := Pk.join_below K7 L8
    have m6 := Pk.kept L8 (Pk.lt_of m7) m7
    have n9 := Pk.kept L8 (Pk.lt_of m9) m9
    have P8 := Pk.own_below P7 L8 (Nat.le_refl _)
    have O8 := Pk.own_below O7 L8 (Nat.le_refl _)
    have T8 := T7.on L8
    have hl7 : w3.heap.size + 1 < (w6.alloc (Tn.trB p ua q.length uc 29)).heap.size := by rw [HS7.out]; omega
    have hh7 : w5.heap.size ≤ (w6.alloc (Tn.trB p ua q.length uc 29)).heap.size := by rw [HS7.out]; omega
    have Q8 := Q7.on L8 hl7 hh7
    have hl8 := Nat.lt_of_lt_of_le hl7 L8.size
    have hh8 := Nat.le_trans hh7 L8.size
    clear c0 c1 c2 c3 c4 m7 m9 P7 O7 T7 Q7 K7 L8 hl7 hh7 HS7
    go_wp2_with fail
    refine (Tn.toTrainS_val a0 z0 cap0 _ HB.out (I.on K8)).mono ?_
    rintro e w9 ⟨rfl, L9, hl9, M9⟩
    have T9' := M9.trains hl9
    have K9 := Pk.join_below K8 L9
    have m7 := Pk.kept L9 (Pk.lt_of m6) m6
    have m9 := Pk.kept L9 (Pk.lt_of n9) n9
    have P9 := Pk.own_below P8 L9 (Nat.le_refl _)
    have O9 := Pk.own_below O8 L9 (Nat.le_refl _)
    have T9 := T8.on L9
    have Q9 := Q8.on L9 hl8 hh8
    have hl9' := Nat.lt_of_lt_of_le hl8 L9.size
    have hh9 := Nat.le_trans hh8 L9.size
    clear m6 n9 P8 O8 T8 Q8 K8 L9 hl8 hh8 hl9 M9
    go_wp2_with fail
    refine (Tn.eqTrainS_same _ _ z0 _ _ _ HB.out T9 T9').mono ?_
    rintro e w10 ⟨rfl, L10⟩
    have K10 := Pk.join_below K9 L10
    have m6 := Pk.kept L10 (Pk.lt_of m7) m7
    have n9 := Pk.kept L10 (Pk.lt_of m9) m9
    have P10 := Pk.own_below P9 L10 (Nat.le_refl _)
    have O10 := Pk.own_below O9 L10 (Nat.le_refl _)
    have Q10 := Q9.on L10 hl9' hh9
    have hh10 := Nat.le_trans hh9 L10.size
    clear m7 m9 P9 O9 T9 T9' Q9 K9 L10 hl9' hh9
    go_wp2_with fail
    refine (Tn.markTrainS_val (w3.heap.size + 1) w5.heap.size (w3.heap.size + 1) z0 _ _ HB.out (Nat.le_refl _) hl5 Q10).mono ?_
    rintro e w11 ⟨z, hz, rfl, D11⟩
    have hdz : decide (z < 0) = false := decide_eq_false (by omega)
    have HLO : Hid (w.heap.size ≤ w3.heap.size + 1) := by have := HK3.out; show _ ≤ _; omega
    have K11 := K10.trans (D11.below.mono HLO.out)
    have m7 : w11.heap[w3.heap.size]? = _ := (D11.block _ (Or.inl (by omega))).trans m6
    have m9 : w11.heap[w6.heap.size]? = _ := (D11.block _ (Or.inr hhi)).trans n9
    have P11 := D11.own P10 fun k hk => Or.inl (by have := HO4.out k hk; omega)
    have O11 := D11.own O10 fun k hk => Or.inr (HO7.out k hk).1
    have hsz11 : w11.heap.size = w10.heap.size := D11.size
    clear D11 Q10 m6 n9 P10 O10 K10
    have c0 : w11.cell? ⟨w3.heap.size, 0, none⟩ = some (.int .i64 p.id) := Pk.cell_at m7 0
    have c1 : w11.cell? ⟨w3.heap.size, 1, none⟩ = some (.int .i64 p.dy) := Pk.cell_at m7 1
    have c2 : w11.cell? ⟨w3.heap.size, 2, none⟩ = some (.int .i64 p.co) := Pk.cell_at m7 2
    have c3 : w11.cell? ⟨w3.heap.size, 3, none⟩ = some (.int .i64 p.se) := Pk.cell_at m7 3
    have c4 : w11.cell? ⟨w3.heap.size, 4, none⟩ = some (.slice va q.length vc) := Pk.cell_at m7 4
    have d0 : w11.cell? ⟨w6.heap.size, 0, none⟩ = some (.int .i64 p.id) := Pk.cell_at m9 0
    have d1 : w11.cell? ⟨w6.heap.size, 1, none⟩ = some (.int .i64 p.dy) := Pk.cell_at m9 1
    have d2 : w11.cell? ⟨w6.heap.size, 2, none⟩ = some (.int .i64 p.co) := Pk.cell_at m9 2
    have d3 : w11.cell? ⟨w6.heap.size, 3, none⟩ = some (.int .i64 p.se) := Pk.cell_at m9 3
    have d4 : w11.cell? ⟨w6.heap.size, 4, none⟩ = some (.slice ua q.length uc) := Pk.cell_at m9 4
    go_wp2_with fail
    refine (Tn.eqTrain_same p ua va q uc vc _ hq (Tn.stops_own O11) (Tn.stops_own P11)).mono ?_
    rintro e w12 ⟨rfl, L12⟩
    have K12 := Pk.join_below K11 L12
    have m6 := Pk.kept L12 (Pk.lt_of m7) m7
    have n9 := Pk.kept L12 (Pk.lt_of m9) m9
    have P12 := Pk.own_below P11 L12 (Nat.le_refl _)
    have O12 := Pk.own_below O11 L12 (Nat.le_refl _)
    have hl12 : w3.heap.size + 1 < w12.heap.size := by have := L12.size; omega
    clear c0 c1 c2 c3 c4 d0 d1 d2 d3 d4 m7 m9 P11 O11 K11 L12 hsz11 hh10
    obtain ⟨g, hg, hgr, hgn, hgR⟩ : ∃ g, g < w12.heap.size ∧ (g = w3.heap.size + 1 ∨ w5.heap.size ≤ g ∧ g < w6.heap.size) ∧ (q.length = 0 ∨ ua = some ⟨g, 0, none⟩) ∧ (q.length = 0 ∨ (ua = some ⟨g, 0, none⟩ ∧ Pk.Room w12 g (q.length * 3))) := by
      rcases own_room O12 with h0 | ⟨g, h1, h2, h3, h4⟩
      · exact ⟨w3.heap.size + 1, hl12, Or.inl rfl, Or.inl h0, Or.inl h0⟩
      · exact ⟨g, h4, Or.inr (HO7.out g (by rw [h1]; rfl)), Or.inr h1, Or.inr ⟨h1, h2⟩⟩
    have HG : Hid (w3.heap.size < g ∧ g ≠ w6.heap.size ∧ w.heap.size ≤ g) := by refine ⟨?_, ?_, ?_⟩ <;> first | omega | (have := HLO.out; omega)
    have d0 : w12.cell? ⟨w6.heap.size, 0, none⟩ = some (.int .i64 p.id) := Pk.cell_at n9 0
    have d1 : w12.cell? ⟨w6.heap.size, 1, none⟩ = some (.int .i64 p.dy) := Pk.cell_at n9 1
    have d2 : w12.cell? ⟨w6.heap.size, 2, none⟩ = some (.int .i64 p.co) := Pk.cell_at n9 2
    have d3 : w12.cell? ⟨w6.heap.size, 3, none⟩ = some (.int .i64 p.se) := Pk.cell_at n9 3
    have d4 : w12.cell? ⟨w6.heap.size, 4, none⟩ = some (.slice ua q.length uc) := Pk.cell_at n9 4
    go_wp2_with fail
    refine (Tn.markTrain_val p ua g q.length uc _ hq hg hgR).mono ?_
    rintro e w13 ⟨rfl, M13, wx, Lx, Bx⟩
    have K13 : Below w.heap.size w w13 := (Pk.join_below K12 Lx).trans (Bx.below.mono HG.out.2.2)
    have m7 : w13.heap[w3.heap.size]? = _ := (Bx.block _ (Or.inl HG.out.1)).trans (Pk.kept Lx (Pk.lt_of m6) m6)
    have m9 : w13.heap[w6.heap.size]? = _ := (Bx.block _ (by have := HG.out.2.1; omega)).trans (Pk.kept Lx (Pk.lt_of n9) n9)
    have P13 := Bx.own (Pk.own_below P12 Lx (Nat.le_refl _)) fun k hk => Or.inl (by have := HO4.out k hk; have := HG.out.1; omega)
    have hg13 : g < w13.heap.size := by have := Lx.size; have := Bx.size; omega
    clear Lx Bx m6 n9 P12 O12 K12 d0 d1 d2 d3 d4 hgR hg hl12
    have d0 : w13.cell? ⟨w6.heap.size, 0, none⟩ = some (.int .i64 p.id) := Pk.cell_at m9 0
    have d1 : w13.cell? ⟨w6.heap.size, 1, none⟩ = some (.int .i64 p.dy) := Pk.cell_at m9 1
    have d2 : w13.cell? ⟨w6.heap.size, 2, none⟩ = some (.int .i64 p.co) := Pk.cell_at m9 2
    have d3 : w13.cell? ⟨w6.heap.size, 3, none⟩ = some (.int .i64 p.se) := Pk.cell_at m9 3
    have d4 : w13.cell? ⟨w6.heap.size, 4, none⟩ = some (.slice ua q.length uc) := Pk.cell_at m9 4
    go_wp2_with fail
    refine (Tn.heldTrain_val p ua g q.length uc _ hq hg13 hgn M13).mono ?_
    rintro e w14 ⟨rfl, L14⟩
    have K14 := Pk.join_below K13 L14
    have m6 := Pk.kept L14 (Pk.lt_of m7) m7
    have n9 := Pk.kept L14 (Pk.lt_of m9) m9
    have P14 := Pk.own_below P13 L14 (Nat.le_refl _)
    have M14 := M13.on L14 hg13
    have hg14 := Nat.lt_of_lt_of_le hg13 L14.size
    clear K13 m7 m9 P13 M13 L14 hg13 d0 d1 d2 d3 d4
    have hdn : decide (1 + 3 * (q.length : Int) < 0) = false := decide_eq_false (by omega)
    go_wp2_with fail
    refine (Tn.toTrainS_val a0 z0 cap0 _ HB.out (I.on K14)).mono ?_
    rintro e w15 ⟨rfl, L15, hl15, M15⟩
    have T15 := M15.trains hl15
    have K15 := Pk.join_below K14 L15
    have m7 := Pk.kept L15 (Pk.lt_of m6) m6
    have m9 := Pk.kept L15 (Pk.lt_of n9) n9
    have P15 := Pk.own_below P14 L15 (Nat.le_refl _)
    have N15 := M14.on L15 hg14
    have hg15 := Nat.lt_of_lt_of_le hg14 L15.size
    clear K14 m6 n9 P14 M14 L15 hg14 M15
    go_wp2_with fail
    refine (HFI.out _ _ _ T15).mono ?_
    rintro e w16 ⟨⟨ha, hc, rfl, O16⟩, L16⟩
    have K16 := Pk.join_below K15 L16
    have m6 := Pk.kept L16 (Pk.lt_of m7) m7
    have n9 := Pk.kept L16 (Pk.lt_of m9) m9
    have P16 := Pk.own_below P15 L16 (Nat.le_refl _)
    have N16 := N15.on L16 hg15
    have hg16 := Nat.lt_of_lt_of_le hg15 L16.size
    clear K15 m7 m9 P15 N15 L16 hg15 T15 hl15
    have NX := Pk.new_below w16 (Tn.trB p ha q.length hc 29)
    have K17 := Pk.join_below K16 NX
    have m7 := Pk.kept NX (Pk.lt_of m6) m6
    have m9 := Pk.kept NX (Pk.lt_of n9) n9
    have P17 := Pk.own_below P16 NX (Nat.le_refl _)
    have O17 := Pk.own_below O16 NX (Nat.le_refl _)
    have N17 := N16.on NX hg16
    have hg17 := Nat.lt_of_lt_of_le hg16 NX.size
    clear K16 m6 n9 P16 O16 N16 NX
    have c0 : (w16.alloc (Tn.trB p ha q.length hc 29)).cell? ⟨w3.heap.size, 0, none⟩ = some (.int .i64 p.id) := Pk.cell_at m7 0
    have c1 : (w16.alloc (Tn.trB p ha q.length hc 29)).cell? ⟨w3.heap.size, 1, none⟩ = some (.int .i64 p.dy) := Pk.cell_at m7 1
    have c2 : (w16.alloc (Tn.trB p ha q.length hc 29)).cell? ⟨w3.heap.size, 2, none⟩ = some (.int .i64 p.co) := Pk.cell_at m7 2
    have c3 : (w16.alloc (Tn.trB p ha q.length hc 29)).cell? ⟨w3.heap.size, 3, none⟩ = some (.int .i64 p.se) := Pk.cell_at m7 3
    have c4 : (w16.alloc (Tn.trB p ha q.length hc 29)).cell? ⟨w3.heap.size, 4, none⟩ = some (.slice va q.length vc) := Pk.cell_at m7 4
    go_wp2_with fail
    refine (Tn.eqTrain_same p ha va q hc vc _ hq (Tn.stops_own O17) (Tn.stops_own P17)).mono ?_
    rintro e w18 ⟨rfl, L18⟩
    have K18 := Pk.join_below K17 L18
    have n9 := Pk.kept L18 (Pk.lt_of m9) m9
    have N18 := N17.on L18 hg17
    have hg18 := Nat.lt_of_lt_of_le hg17 L18.size
    clear K17 m7 m9 P17 O17 N17 L18 hg17 c0 c1 c2 c3 c4
    have d0 : w18.cell? ⟨w6.heap.size, 0, none⟩ = some (.int .i64 p.id) := Pk.cell_at n9 0
    have d1 : w18.cell? ⟨w6.heap.size, 1, none⟩ = some (.int .i64 p.dy) := Pk.cell_at n9 1
    have d2 : w18.cell? ⟨w6.heap.size, 2, none⟩ = some (.int .i64 p.co) := Pk.cell_at n9 2
    have d3 : w18.cell? ⟨w6.heap.size, 3, none⟩ = some (.int .i64 p.se) := Pk.cell_at n9 3
    have d4 : w18.cell? ⟨w6.heap.size, 4, none⟩ = some (.slice ua q.length uc) := Pk.cell_at n9 4
    go_wp2_with fail
    refine (Tn.heldTrain_val p ua g q.length uc _ hq hg18 hgn N18).mono ?_
    rintro e w19 ⟨rfl, L19⟩
    have K19 := Pk.join_below K18 L19
    go_wp2
    go_ret
    exact ⟨rfl, K19⟩
  · have HM : Hid (_ ∧ _ ∧ _) := ⟨hn, hs, hb⟩
    clear hn hs hb
    go_enter Try.func7, Try.ntmps7
    go_wp2_with fail
    refine (Tn.szTrainS_no a0 z0 cap0 _ HM.out.1 HM.out.2.1 HM.out.2.2 I).mono ?_
    rintro e w1 ⟨rfl, L1⟩
    go_wp2
    go_ret
    exact ⟨rfl, L1⟩

set_option maxRecDepth 100000 in
theorem contract (H : Type) (enc : TypeId × Value → H) (W : World) (base : Nat) (args : Array Value) (ds gs : List (DataW H)) (before : List MemPlace)
    (hval : ∀ (j : Nat) t v, Try.f7.params[j]? = some t → args[j]? = some v → Value.okWide Try.prog W .any base t v)
    (hW : DataW.Whole enc Try.prog Try.f7.params.toList Rows.fnExactFindTrainSpec.vars false W args.toList ds gs before) :
    Calls Try.prog 7 args W fun e W' => ∃ v, e = .returned v ∧ Rows.fnExactFindTrainSpec.post enc Try.prog Try.f7 false true false false W args v W' := by
  have hW' := hW
  obtain ⟨p, q, hA0, hV, rfl, hfz, hnd⟩ := hW
  have hA : DataW.TrodAll enc Try.prog W 0 (fun _ => true) true Try.f7.params.toList args.toList ds p := hA0
  rw [Try.params7] at hA hval
  obtain ⟨v0, vs0, d0, ds0, p0, q0, hargs, rfl, rfl, h0, r0⟩ := trodAll_cons hA
  obtain ⟨v1, vs1, d1, ds1, p1, q1, rfl, rfl, rfl, h1, r1⟩ := trodAll_cons r0
  obtain ⟨rfl, rfl, rfl⟩ := trodAll_nil r1
  obtain rfl : args = #[v0, v1] := by cases args; simp_all
  obtain ⟨rfl, rfl⟩ := trodVars_none hV
  have k0 := h0
  have lt0 : ∀ x ∈ p0, x.block < W.heap.size := by obtain ⟨m, hm⟩ := k0; exact DataW.trod_lt m _ _ _ hm
  obtain ⟨a0, len0, cap0, rfl⟩ := okWide_slice Try.underlying37 (hval 0 37 v0 rfl rfl)
  obtain ⟨z0, w0, rfl⟩ : ∃ zs : List Tn.Tr, (Tn.TrainsA W a0 zs ∧ zs.length ≤ maxLen ∧ ∀ i (h : i < zs.length), zs[i].l.length ≤ maxLen) ∧ zs.length = len0 := by
    obtain ⟨fuel, hf⟩ := h0
    obtain ⟨a, cap, ts, e, hh⟩ := Tn.trains_open hf
    simp [Value.cells] at e
    obtain ⟨rfl, rfl, rfl⟩ := e
    exact ⟨ts, ⟨hh.2.2, hh.1, hh.2.1⟩, rfl⟩
  have k1 := h1
  have lt1 : ∀ x ∈ p1, x.block < W.heap.size := by obtain ⟨m, hm⟩ := k1; exact DataW.trod_lt m _ _ _ hm
  obtain ⟨a1, rfl, rfl, rfl, w1⟩ := open_int Try.underlying3 (hval 1 3 v1 rfl rfl) h1
  clear hA0
  refine (walk a0 cap0 z0 a1 w1 W w0 ).mono fun e W' ⟨he, bel⟩ => ?_
  subst he
  exact ⟨_, rfl, _, _, _, [], _, [], hW', trodAll_mk1 (shut_bool Try.underlying4 _), (trodAll_cons_mk (Below.trod Errs.laidOut (by kernel_rfl) (of_decide_eq_true (by kernel_rfl)) k0 bel lt0) (trodAll_cons_mk (Below.trod Errs.laidOut (by kernel_rfl) (of_decide_eq_true (by kernel_rfl)) k1 bel lt1) trodAll_mk0)), rfl, bel.frame _, fun h => by cases h⟩

set_option maxRecDepth 100000 in
theorem lifted (os : Os) (started : os.Started) (H : Type) (enc : TypeId × Value → H) :
    ReturnsInHanded {} Try.checked os 7 .any (Rows.fnExactFindTrainSpec.pre6 enc Try.prog Try.f7 Rows.fnExactFindTrainRow.domain false) (Rows.fnExactFindTrainSpec.post enc Try.prog Try.f7 false true false false) := by
  refine returnsInHanded_of_change (C := Try.checked) Errs.own started (by kernel_rfl) Try.func7
    (ChangeSpec.witness6 (enc := enc) (C := Try.checked) false ⟨#[], #[.slice none 0 0, .int .i64 0], []⟩ 8 (by kernel_rfl) (by kernel_rfl) (by kernel_rfl) (by kernel_rfl)) ?_
  intro W base args ds gs before hval hW _ _
  exact contract H enc W base args ds gs before hval hW

set_option maxRecDepth 100000 in
theorem over : Rows.fnExactFindTrainRow.holds Try.pinned (OpenSpec.ofChange Rows.fnExactFindTrainSpec) :=
  OpenClaim.holds_of_wide 7 Try.f7 rfl rfl rfl rfl rfl rfl rfl ⟨rfl, rfl, rfl, rfl, rfl⟩ rfl rfl rfl rfl rfl (by kernel_rfl) Try.func7 (by kernel_rfl)
    (of_decide_eq_true (by kernel_rfl)) (by unfold Func.isWrapper; first | (rw [if_pos (by decide +kernel)]; kernel_rfl) | (rw [if_neg (by decide +kernel)]; exact ⟨rfl, rfl⟩))
    (fun os started H enc _ => lifted os started H enc)
end Go.Proofs.Ytbjojljmgcnpnan.fnExactFindTrain
namespace Go.Proofs.Ytbjojljmgcnpnan
theorem FnExactFindTrain_holds : Rows.FnExactFindTrainSaid := fnExactFindTrain.over
end Go.Proofs.Ytbjojljmgcnpnan

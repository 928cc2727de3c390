/- Which seats a train has that are free; the model's l08Free and l08Asked. -/
import Derived.Test.YtiollklighmojadSeHoldsS
import Derived.Test.YtiollklighmojadTnRuns
namespace Go.Proofs.Ytiollklighmojad
namespace Se
open Go.ChangeShapes Go.WideShapes Go.ChangeAt Go.RowKit
open Tn (Hd St trV trB Stops runsB okB)
open Pk (new_below join_below cell_at heap_new frozen_at lt_of kept heap_old Drawn info_of own_form own_below Room)
set_option linter.unusedSimpArgs false
set_option linter.unusedVariables false

/-- A seat of a train, told by a hold without an order. -/
def seat (t : Hd) (day a b : Int) (c s : Nat) : Hl := ⟨t.id, day, ((c + 1 : Nat) : Int), ((s + 1 : Nat) : Int), a, b, 0⟩

/-- All seats of the first c coaches of n seats, and the first s of the next. -/
def pre (t : Hd) (day a b : Int) (n c s : Nat) : List Hl := (List.range c).flatMap (fun i => (List.range n).map (seat t day a b i)) ++ (List.range s).map (seat t day a b c)

theorem pre_next (t : Hd) (day a b : Int) (n c s : Nat) : pre t day a b n c (s + 1) = pre t day a b n c s ++ [seat t day a b c s] := by
  unfold pre
  rw [List.range_succ, List.map_append]
  simp

theorem pre_row (t : Hd) (day a b : Int) (n c : Nat) : pre t day a b n c n = pre t day a b n (c + 1) 0 := by
  unfold pre
  rw [List.range_succ, List.flatMap_append]
  simp

theorem pre_0 (t : Hd) (day a b : Int) (n : Nat) : pre t day a b n 0 0 = [] := rfl

theorem rows_len (t : Hd) (day a b : Int) (n c : Nat) : ((List.range c).flatMap (fun i => (List.range n).map (seat t day a b i))).length = c * n := by
  induction c with
  | zero => simp
  | succ c ih => rw [List.range_succ, List.flatMap_append, List.length_append, ih, Nat.succ_mul]; simp

theorem pre_len (t : Hd) (day a b : Int) (n c s : Nat) : (pre t day a b n c s).length = c * n + s := by
  unfold pre
  rw [List.length_append, rows_len]
  simp

/-- All seats of a train. -/
def allL (t : Hd) (day a b : Int) : List Hl := pre t day a b t.se.toNat t.co.toNat 0

/-- Those that are free. -/
def freeL (l : List Hl) (t : Hd) (day a b : Int) : List Hl := (allL t day a b).filter (freeB l)

/-- Whether a train can be asked for seats from stop a to b on a day. -/
def askB (t : Hd) (ls : List St) (day a b : Int) : Bool := runsB t ls day && stB a b ls.length

theorem run_is {t : Hd} {ls : List St} {day : Int} (h : runsB t ls day = true) : (1 ≤ t.id ∧ t.id ≤ 9999) ∧ (0 ≤ t.co ∧ t.co ≤ 20) ∧ (0 ≤ t.se ∧ t.se ≤ 90) ∧ (0 ≤ day ∧ day ≤ 99999) ∧ 2 ≤ ls.length ∧ ls.length ≤ 20 := by
  unfold runsB okB Tn.headB Tn.stopsB Tn.seatB at h
  simp only [Bool.and_eq_true, Bool.or_eq_true, decide_eq_true_eq] at h
  obtain ⟨⟨⟨⟨h1, h2⟩, h3⟩, h4, h5⟩, h6, h7⟩ := h
  have a1 := Tn.inB_yes h1
  have a4 := Tn.inB_yes h4
  have a6 := Tn.inB_yes h6
  rcases h3 with ⟨e1, e2⟩ | ⟨e1, e2⟩
  · omega
  · have b1 := Tn.inB_yes e1
    have b2 := Tn.inB_yes e2
    omega

theorem wfI {x : Int} (h : -1000000 ≤ x ∧ x ≤ 1000000) : WfI x := WalkArith.wf_i64 (by omega)

set_option maxRecDepth 100000 in
set_option maxHeartbeats 4000000 in
theorem specFree_val (a : Option Addr) (l : List Hl) (cap : Nat) (p : Hl) (w : World) (hl : l.length ≤ maxLen) (I : Holds w a l) :
    Calls Try.prog 138 #[.slice a l.length cap, lgV p] w fun e w' => e = .returned (.bool (freeB l p)) ∧ Below w.heap.size w w' := by
  unfold maxLen at hl
  have N := new_below w (.cells #[.int .i64 p.tr, .int .i64 p.dy, .int .i64 p.co, .int .i64 p.se, .int .i64 p.ba, .int .i64 p.be, .int .i64 p.od] 77)
  have HB : Hid (Bx (w.alloc (.cells #[.int .i64 p.tr, .int .i64 p.dy, .int .i64 p.co, .int .i64 p.se, .int .i64 p.ba, .int .i64 p.be, .int .i64 p.od] 77)) w.heap.size p) := Bx.of (heap_new _ _)
  have hb0 : w.heap.size < (w.alloc (.cells #[.int .i64 p.tr, .int .i64 p.dy, .int .i64 p.co, .int .i64 p.se, .int .i64 p.ba, .int .i64 p.be, .int .i64 p.od] 77)).heap.size := by simp
  go_enter Try.func138, Try.ntmps138
  go_wp2
  generalize w.alloc (.cells #[.int .i64 p.tr, .int .i64 p.dy, .int .i64 p.co, .int .i64 p.se, .int .i64 p.ba, .int .i64 p.be, .int .i64 p.od] 77) = W at *
  go_loopw [5] (fun x wr => ∃ k : Nat, k ≤ l.length ∧ x = .int .i64 k ∧ Below W.heap.size W wr ∧ Hid (∀ i (hi : i < l.length), i < k → meetB p l[i] = false)) (fun x _ => l.length - (intOf x).toNat)
  case atStart => exact ⟨0, by omega, rfl, Below.refl _ _, fun i _ h => by omega⟩
  case round =>
    obtain ⟨k, hk, rfl, L, H⟩ := hrel
    by_cases hkn : k < l.length
    · obtain ⟨b, o, rfl, hlt, hat⟩ := ((I.on N).on L).get k hkn
      have hbr : w.heap.size < wr.heap.size := Nat.lt_of_lt_of_le hb0 L.size
      have HP : Hid (At wr b o k l[k]) := hat
      have HQ : Hid (Bx wr w.heap.size p) := HB.out.on L hb0
      have HM : Hid (∀ w, _) := fun w => specMeet_val l[k] p w
      rw [meet_comm] at HM
      clear hat
      by_cases hm : meetB p l[k] = true
      · rw [hm] at HM
        have HV : Hid (freeB l p = false) := by
          have h1 := free_no (i := l.length) hkn hkn hm
          rw [List.take_length] at h1
          exact h1
        generalize l[k] = q at *
        clear H hm
        go_wp2
        refine wp_region_held_drew (S := (fun w' => At w' b o k q ∧ Bx w' w.heap.size p)) (by kernel_rfl) ?_ (fun hHeld => ?_)
        · exact ⟨HP.out, HQ.out⟩
        refine wpAnyH_take (i := 0) (v := .slice (some ⟨b, o, none⟩) l.length cap) rfl (by kernel_rfl) (by kernel_rfl) (by kernel_rfl) (fun _ _ _ h => h) (Or.inl ⟨by kernel_rfl, fun w hSw => by first | (go_simp; done) | (dsimp only at hSw; obtain ⟨⟨x0, x1, x2, x3, x4, x5, x6⟩, ⟨y0, y1, y2, y3, y4, y5, y6⟩⟩ := hSw; go_simp; done) | rfl⟩) (by assumption) ?_
        simp only [Act.put, List.getElem_toArray, List.getElem_cons_succ, List.getElem_cons_zero, List.setIfInBounds_toArray, List.set_cons_succ, List.set_cons_zero]
        refine wpAnyH_take (i := 1) (v := .int .i64 k) rfl (by kernel_rfl) (by kernel_rfl) (by kernel_rfl) (fun _ _ _ h => h) (Or.inl ⟨by kernel_rfl, fun w hSw => by first | (go_simp; done) | (dsimp only at hSw; obtain ⟨⟨x0, x1, x2, x3, x4, x5, x6⟩, ⟨y0, y1, y2, y3, y4, y5, y6⟩⟩ := hSw; go_simp; done) | rfl⟩) (by assumption) ?_
        simp only [Act.put, List.getElem_toArray, List.getElem_cons_succ, List.getElem_cons_zero, List.setIfInBounds_toArray, List.set_cons_succ, List.set_cons_zero]
        refine wpAnyH_take (i := 2) (v := .pointer (some ⟨b, o + k * 7, none⟩)) rfl (by kernel_rfl) (by kernel_rfl) (by kernel_rfl) (fun _ _ _ h => h) (Or.inl ⟨by kernel_rfl, fun w hSw => by first | (go_simp; done) | (dsimp only at hSw; obtain ⟨⟨x0, x1, x2, x3, x4, x5, x6⟩, ⟨y0, y1, y2, y3, y4, y5, y6⟩⟩ := hSw; go_simp; done) | rfl⟩) (by assumption) ?_
        simp only [Act.put, List.getElem_toArray, List.getElem_cons_succ, List.getElem_cons_zero, List.setIfInBounds_toArray, List.set_cons_succ, List.set_cons_zero]
        refine wpAnyH_take (i := 3) (v := .agg #[.int .i64 q.tr, .int .i64 q.dy, .int .i64 q.co, .int .i64 q.se, .int .i64 q.ba, .int .i64 q.be, .int .i64 q.od]) rfl (by kernel_rfl) (by kernel_rfl) (by kernel_rfl) (fun _ _ _ h => h) (Or.inl ⟨by kernel_rfl, fun w hSw => by first | (go_simp; done) | (dsimp only at hSw; obtain ⟨⟨x0, x1, x2, x3, x4, x5, x6⟩, ⟨y0, y1, y2, y3, y4, y5, y6⟩⟩ := hSw; go_simp; done) | rfl⟩) (by assumption) ?_
        simp only [Act.put, List.getElem_toArray, List.getElem_cons_succ, List.getElem_cons_zero, List.setIfInBounds_toArray, List.set_cons_succ, List.set_cons_zero]
        refine wpAnyH_take (i := 4) (v := .agg #[.int .i64 p.tr, .int .i64 p.dy, .int .i64 p.co, .int .i64 p.se, .int .i64 p.ba, .int .i64 p.be, .int .i64 p.od]) rfl (by kernel_rfl) (by kernel_rfl) (by kernel_rfl) (fun _ _ _ h => h) (Or.inl ⟨by kernel_rfl, fun w hSw => by first | (go_simp; done) | (dsimp only at hSw; obtain ⟨⟨x0, x1, x2, x3, x4, x5, x6⟩, ⟨y0, y1, y2, y3, y4, y5, y6⟩⟩ := hSw; go_simp; done) | rfl⟩) (by assumption) ?_
        simp only [Act.put, List.getElem_toArray, List.getElem_cons_succ, List.getElem_cons_zero, List.setIfInBounds_toArray, List.set_cons_succ, List.set_cons_zero]
        refine wpAnyH_ready (rs := [5]) (by kernel_rfl) (by simp) ?_
        refine AllReadyH.cons rfl (fun K hK => ?_) AllReadyH.nil
        go_simp
        go_wp2_with (go_at_call 60; (with_reducible refine (HM.out _).mono ?_); rintro e w3 ⟨rfl, L3⟩; have K3 : Below wr.heap.size wr w3 := (by first | exact L3 | exact ((Below.refl _ _).drew).trans L3))
        refine hK.out _ _ ?_ (fun hHeld2 => ?_)
        · exact ⟨HP.out.on K3 hlt, HQ.out.on K3 hbr⟩
        clear hK K hHeld
        have hHeld := hHeld2
        clear hHeld2
        refine wpAnyH_done (by kernel_rfl) ?_ _
        go_wp2
        go_ret
        exact ⟨by rw [HV.out] <;> rfl, join_below N (join_below L K3)⟩
      · have hm : meetB p l[k] = false := Bool.eq_false_iff.2 hm
        rw [hm] at HM
        have HE : Hid (∀ i (hi : i < l.length), i < k + 1 → meetB p l[i] = false) := by
          intro i hi hik
          by_cases h : i = k
          · subst h; exact hm
          · exact H.out i hi (by omega)
        generalize l[k] = q at *
        clear H hm
        go_wp2
        refine wp_region_held_drew (S := (fun w' => At w' b o k q ∧ Bx w' w.heap.size p)) (by kernel_rfl) ?_ (fun hHeld => ?_)
        · exact ⟨HP.out, HQ.out⟩
        refine wpAnyH_take (i := 0) (v := .slice (some ⟨b, o, none⟩) l.length cap) rfl (by kernel_rfl) (by kernel_rfl) (by kernel_rfl) (fun _ _ _ h => h) (Or.inl ⟨by kernel_rfl, fun w hSw => by first | (go_simp; done) | (dsimp only at hSw; obtain ⟨⟨x0, x1, x2, x3, x4, x5, x6⟩, ⟨y0, y1, y2, y3, y4, y5, y6⟩⟩ := hSw; go_simp; done) | rfl⟩) (by assumption) ?_
        simp only [Act.put, List.getElem_toArray, List.getElem_cons_succ, List.getElem_cons_zero, List.setIfInBounds_toArray, List.set_cons_succ, List.set_cons_zero]
        refine wpAnyH_take (i := 1) (v := .int .i64 k) rfl (by kernel_rfl) (by kernel_rfl) (by kernel_rfl) (fun _ _ _ h => h) (Or.inl ⟨by kernel_rfl, fun w hSw => by first | (go_simp; done) | (dsimp only at hSw; obtain ⟨⟨x0, x1, x2, x3, x4, x5, x6⟩, ⟨y0, y1, y2, y3, y4, y5, y6⟩⟩ := hSw; go_simp; done) | rfl⟩) (by assumption) ?_
        simp only [Act.put, List.getElem_toArray, List.getElem_cons_succ, List.getElem_cons_zero, List.setIfInBounds_toArray, List.set_cons_succ, List.set_cons_zero]
        refine wpAnyH_take (i := 2) (v := .pointer (some ⟨b, o + k * 7, none⟩)) rfl (by kernel_rfl) (by kernel_rfl) (by kernel_rfl) (fun _ _ _ h => h) (Or.inl ⟨by kernel_rfl, fun w hSw => by first | (go_simp; done) | (dsimp only at hSw; obtain ⟨⟨x0, x1, x2, x3, x4, x5, x6⟩, ⟨y0, y1, y2, y3, y4, y5, y6⟩⟩ := hSw; go_simp; done) | rfl⟩) (by assumption) ?_
        simp only [Act.put, List.getElem_toArray, List.getElem_cons_succ, List.getElem_cons_zero, List.setIfInBounds_toArray, List.set_cons_succ, List.set_cons_zero]
        refine wpAnyH_take (i := 3) (v := .agg #[.int .i64 q.tr, .int .i64 q.dy, .int .i64 q.co, .int .i64 q.se, .int .i64 q.ba, .int .i64 q.be, .int .i64 q.od]) rfl (by kernel_rfl) (by kernel_rfl) (by kernel_rfl) (fun _ _ _ h => h) (Or.inl ⟨by kernel_rfl, fun w hSw => by first | (go_simp; done) | (dsimp only at hSw; obtain ⟨⟨x0, x1, x2, x3, x4, x5, x6⟩, ⟨y0, y1, y2, y3, y4, y5, y6⟩⟩ := hSw; go_simp; done) | rfl⟩) (by assumption) ?_
        simp only [Act.put, List.getElem_toArray, List.getElem_cons_succ, List.getElem_cons_zero, List.setIfInBounds_toArray, List.set_cons_succ, List.set_cons_zero]
        refine wpAnyH_take (i := 4) (v := .agg #[.int .i64 p.tr, .int .i64 p.dy, .int .i64 p.co, .int .i64 p.se, .int .i64 p.ba, .int .i64 p.be, .int .i64 p.od]) rfl (by kernel_rfl) (by kernel_rfl) (by kernel_rfl) (fun _ _ _ h => h) (Or.inl ⟨by kernel_rfl, fun w hSw => by first | (go_simp; done) | (dsimp only at hSw; obtain ⟨⟨x0, x1, x2, x3, x4, x5, x6⟩, ⟨y0, y1, y2, y3, y4, y5, y6⟩⟩ := hSw; go_simp; done) | rfl⟩) (by assumption) ?_
        simp only [Act.put, List.getElem_toArray, List.getElem_cons_succ, List.getElem_cons_zero, List.setIfInBounds_toArray, List.set_cons_succ, List.set_cons_zero]
        refine wpAnyH_ready (rs := [5]) (by kernel_rfl) (by simp) ?_
        refine AllReadyH.cons rfl (fun K hK => ?_) AllReadyH.nil
        go_simp
        go_wp2_with (go_at_call 60; (with_reducible refine (HM.out _).mono ?_); rintro e w3 ⟨rfl, L3⟩; have K3 : Below wr.heap.size wr w3 := (by first | exact L3 | exact ((Below.refl _ _).drew).trans L3))
        refine hK.out _ _ ?_ (fun hHeld2 => ?_)
        · exact ⟨HP.out.on K3 hlt, HQ.out.on K3 hbr⟩
        clear hK K hHeld
        have hHeld := hHeld2
        clear hHeld2
        refine wpAnyH_done (by kernel_rfl) ?_ _
        have K4 := join_below L K3
        go_wp2
        go_roundw
        case rel => exact ⟨k + 1, by omega, by go_num, K4, HE⟩
        case measure => simp [intOf]; omega
    · have HV : Hid (freeB l p = true) := by
        have h1 := free_yes (l := l) (h := p) (i := l.length) fun i hi h => H.out i hi (by omega)
        rw [List.take_length] at h1
        exact h1
      go_wp2
      go_ret
      exact ⟨by rw [HV.out] <;> rfl, join_below N L⟩

/-- A train's box. -/
def Tbx (w : World) (B : Nat) (t : Hd) (a : Option Addr) (n cap : Nat) : Prop := w.cell? ⟨B, 0, none⟩ = some (.int .i64 t.id) ∧ w.cell? ⟨B, 1, none⟩ = some (.int .i64 t.dy) ∧ w.cell? ⟨B, 2, none⟩ = some (.int .i64 t.co) ∧ w.cell? ⟨B, 3, none⟩ = some (.int .i64 t.se) ∧ w.cell? ⟨B, 4, none⟩ = some (.slice a n cap)

theorem Tbx.of {w : World} {B : Nat} {t : Hd} {a : Option Addr} {n cap : Nat} {ty : TypeId} (h : w.heap[B]? = some (trB t a n cap ty)) : Tbx w B t a n cap := ⟨cell_at h 0, cell_at h 1, cell_at h 2, cell_at h 3, cell_at h 4⟩

theorem Tbx.on {w w1 : World} {B C : Nat} {t : Hd} {a : Option Addr} {n cap : Nat} (h : Tbx w B t a n cap) (L : Below C w w1) (hB : B < C) : Tbx w1 B t a n cap := by
  unfold Tbx
  rw [L.cell (p := ⟨B, 0, none⟩) hB, L.cell (p := ⟨B, 1, none⟩) hB, L.cell (p := ⟨B, 2, none⟩) hB, L.cell (p := ⟨B, 3, none⟩) hB, L.cell (p := ⟨B, 4, none⟩) hB]
  exact h

set_option maxRecDepth 100000 in
set_option maxHeartbeats 4000000 in
theorem specAsked_val (t : Hd) (ta : Option Addr) (ls : List St) (tc : Nat) (day a b : Int) (w : World) (hl : ls.length ≤ maxLen) (J : Stops w ta ls) :
    Calls Try.prog 99 #[trV t ta ls.length tc, .int .i64 day, .int .i64 a, .int .i64 b] w fun e w' => e = .returned (.bool (askB t ls day a b)) ∧ Below w.heap.size w w' := by
  have N := new_below w (trB t ta ls.length tc 26)
  have HB : Hid (Tbx (w.alloc (trB t ta ls.length tc 26)) w.heap.size t ta ls.length tc) := Tbx.of (heap_new _ _)
  have hb0 : w.heap.size < (w.alloc (trB t ta ls.length tc 26)).heap.size := by simp
  have HR : Hid (∀ _ : Unit, _) := fun _ => Tn.specRuns_val t day ta ls tc _ hl (J.on N)
  clear hl
  by_cases h0 : runsB t ls day = true
  · rw [h0] at HR
    obtain ⟨-, -, -, -, hl2, hl20⟩ := run_is h0
    by_cases h1 : inB a 0 ((ls.length : Int) - 2) = true
    · obtain ⟨a0, a1⟩ := in_is.1 h1
      by_cases h2 : inB b (a + 1) ((ls.length : Int) - 1) = true
      · have HV : Hid (askB t ls day a b = true) := by
          have := in_is.1 h2
          show askB t ls day a b = true
          unfold askB
          rw [h0, Bool.true_and, st_is]
          omega
        clear h0
        go_enter Try.func99, Try.ntmps99
        go_wp2_with fail
        refine (HR.out ()).mono ?_
        rintro e w1 ⟨rfl, L1⟩
        obtain ⟨x0, x1, x2, x3, x4⟩ := HB.out.on L1 hb0
        go_wp2_with fail
        refine (ins_yes a 0 _ _ h1).mono ?_
        rintro e w2 ⟨rfl, rfl⟩
        go_wp2_with fail
        refine (ins_yes b (a + 1) _ _ h2).mono ?_
        rintro e w3 ⟨rfl, rfl⟩
        go_wp2
        go_ret
        exact ⟨by rw [HV.out] <;> rfl, join_below N L1⟩
      · have h2 : inB b (a + 1) ((ls.length : Int) - 1) = false := Bool.eq_false_iff.2 h2
        have HV : Hid (askB t ls day a b = false) := by
          have h3 := in_not.1 h2
          show askB t ls day a b = false
          unfold askB
          rw [h0, Bool.true_and, Bool.eq_false_iff]
          intro h4
          rw [st_is] at h4
          apply h3
          omega
        clear h0
        go_enter Try.func99, Try.ntmps99
        go_wp2_with fail
        refine (HR.out ()).mono ?_
        rintro e w1 ⟨rfl, L1⟩
        obtain ⟨x0, x1, x2, x3, x4⟩ := HB.out.on L1 hb0
        go_wp2_with fail
        refine (ins_yes a 0 _ _ h1).mono ?_
        rintro e w2 ⟨rfl, rfl⟩
        go_wp2_with fail
        refine (ins_no b (a + 1) _ _ h2).mono ?_
        rintro e w3 ⟨rfl, rfl⟩
        go_wp2
        go_ret
        exact ⟨by rw [HV.out] <;> rfl, join_below N L1⟩
    · have h1 : inB a 0 ((ls.length : Int) - 2) = false := Bool.eq_false_iff.2 h1
      have HV : Hid (askB t ls day a b = false) := by
        have h3 := in_not.1 h1
        show askB t ls day a b = false
        unfold askB
        rw [h0, Bool.true_and, Bool.eq_false_iff]
        intro h4
        rw [st_is] at h4
        apply h3
        omega
      clear h0
      go_enter Try.func99, Try.ntmps99
      go_wp2_with fail
      refine (HR.out ()).mono ?_
      rintro e w1 ⟨rfl, L1⟩
      obtain ⟨x0, x1, x2, x3, x4⟩ := HB.out.on L1 hb0
      go_wp2_with fail
      refine (ins_no a 0 _ _ h1).mono ?_
      rintro e w2 ⟨rfl, rfl⟩
      go_wp2
      go_ret
      exact ⟨by rw [HV.out] <;> rfl, join_below N L1⟩
  · have h0 : runsB t ls day = false := Bool.eq_false_iff.2 h0
    rw [h0] at HR
    have HV : Hid (askB t ls day a b = false) := by
      show askB t ls day a b = false
      unfold askB
      rw [h0]
      rfl
    clear h0
    go_enter Try.func99, Try.ntmps99
    go_wp2_with fail
    refine (HR.out ()).mono ?_
    rintro e w1 ⟨rfl, L1⟩
    go_wp2
    go_ret
    exact ⟨by rw [HV.out] <;> rfl, join_below N L1⟩

end Se
end Go.Proofs.Ytiollklighmojad

/- Which lists of holds are right, and the model's HoldsOk. -/
import Derived.Test.YtmoinacceildcaaGreatDoorSeOk
import Derived.Test.YtmoinacceildcaaGreatDoorSeMeetS
namespace Go.Proofs.YtmoinacceildcaaGreatDoor
namespace Se
open Go.ChangeShapes Go.WideShapes Go.ChangeAt Go.RowKit
open Pk (new_below join_below cell_at heap_new frozen_at lt_of kept heap_old Drawn info_of own_form own_below Room)
set_option linter.unusedSimpArgs false
set_option linter.unusedVariables false

/-- No hold of a list meets one. -/
def freeB (l : List Hl) (h : Hl) : Bool := l.all fun q => !meetB h q

/-- All that follow are right behind those that are there. -/
def okR : List Hl → List Hl → Bool
  | _, [] => true
  | s, h :: r => holdB h && (freeB s h && okR (s ++ [h]) r)

/-- Whether a list of holds is right. -/
def holdsB (l : List Hl) : Bool := decide (l.length ≤ 400) && okR [] l

theorem okR_step (l : List Hl) (k : Nat) (h : k < l.length) : okR (l.take k) (l.drop k) = (holdB l[k] && (freeB (l.take k) l[k] && okR (l.take (k + 1)) (l.drop (k + 1)))) := by
  rw [List.drop_eq_getElem_cons h, okR, List.take_succ_eq_append_getElem h]

theorem okR_end (l : List Hl) (k : Nat) (h : l.length ≤ k) : okR (l.take k) (l.drop k) = true := by
  rw [List.drop_eq_nil_of_le h, okR]

theorem free_yes {l : List Hl} {h : Hl} {i : Nat} (H : ∀ j (hj : j < l.length), j < i → meetB h l[j] = false) : freeB (l.take i) h = true := by
  unfold freeB
  rw [List.all_eq_true]
  intro q hq
  obtain ⟨j, hj, rfl⟩ := List.getElem_of_mem hq
  rw [List.getElem_take]
  rw [List.length_take] at hj
  rw [H j (by omega) (by omega)]
  rfl

theorem free_no {l : List Hl} {h : Hl} {i j : Nat} (hj : j < l.length) (hi : j < i) (H : meetB h l[j] = true) : freeB (l.take i) h = false := by
  unfold freeB
  rw [List.all_eq_false]
  refine ⟨l[j], ?_, by rw [H]; simp⟩
  rw [List.mem_take_iff_getElem]
  exact ⟨j, by omega, rfl⟩

/-- The k-th hold of a row at o in block b. -/
def At (w : World) (b o k : Nat) (p : Hl) : Prop := w.cell? ⟨b, o + k * 7, none⟩ = some (.int .i64 p.tr) ∧ w.cell? ⟨b, o + k * 7 + 1, none⟩ = some (.int .i64 p.dy) ∧ w.cell? ⟨b, o + k * 7 + 2, none⟩ = some (.int .i64 p.co) ∧ w.cell? ⟨b, o + k * 7 + 3, none⟩ = some (.int .i64 p.se) ∧ w.cell? ⟨b, o + k * 7 + 4, none⟩ = some (.int .i64 p.ba) ∧ w.cell? ⟨b, o + k * 7 + 5, none⟩ = some (.int .i64 p.be) ∧ w.cell? ⟨b, o + k * 7 + 6, none⟩ = some (.int .i64 p.od)

theorem At.on {w w1 : World} {b o k B : Nat} {p : Hl} (h : At w b o k p) (L : Below B w w1) (hb : b < B) : At w1 b o k p := by
  unfold At
  rw [L.cell (p := ⟨b, o + k * 7, none⟩) hb, L.cell (p := ⟨b, o + k * 7 + 1, none⟩) hb, L.cell (p := ⟨b, o + k * 7 + 2, none⟩) hb, L.cell (p := ⟨b, o + k * 7 + 3, none⟩) hb, L.cell (p := ⟨b, o + k * 7 + 4, none⟩) hb, L.cell (p := ⟨b, o + k * 7 + 5, none⟩) hb, L.cell (p := ⟨b, o + k * 7 + 6, none⟩) hb]
  exact h

theorem Holds.get {w : World} {a : Option Addr} {ps : List Hl} (h : Holds w a ps) (k : Nat) (hk : k < ps.length) : ∃ b o, a = some ⟨b, o, none⟩ ∧ b < w.heap.size ∧ At w b o k ps[k] := h.at k hk

theorem Holds.put {w : World} {b o : Nat} {ps : List Hl} (h : Holds w (some ⟨b, o, none⟩) ps) (k : Nat) (hk : k < ps.length) : At w b o k ps[k] := by
  obtain ⟨b', o', e, -, c⟩ := h.at k hk
  simp only [Option.some.injEq, Addr.mk.injEq, and_true] at e
  obtain ⟨rfl, rfl⟩ := e
  exact c

set_option maxRecDepth 100000 in
set_option maxHeartbeats 4000000 in
theorem specHolds_val (a : Option Addr) (l : List Hl) (cap : Nat) (w : World) (hl : l.length ≤ maxLen) (I : Holds w a l) :
    Calls Tryz.prog 63 #[.slice a l.length cap] w fun e w' => e = .returned (.bool (holdsB l)) ∧ Below w.heap.size w w' := by
  unfold maxLen at hl
  by_cases h4 : l.length ≤ 400
  · have HB : Hid (holdsB l = okR (l.take 0) (l.drop 0)) := by simp [holdsB, h4, Hid]
    have d4 : decide (400 < (l.length : Int)) = false := decide_eq_false (by omega)
    clear hl
    go_enter Tryz.func63, Tryz.ntmps63
    go_wp2
    go_loopw [3] (fun x wr => ∃ i : Nat, i ≤ l.length ∧ x = .int .i64 i ∧ Below w.heap.size w wr ∧ Hid (holdsB l = okR (l.take i) (l.drop i))) (fun x _ => l.length - (intOf x).toNat)
    case atStart => exact ⟨0, by omega, rfl, Below.refl _ _, HB⟩
    case round =>
      obtain ⟨i, hi, rfl, L, HO⟩ := hrel
      by_cases hin : i < l.length
      · obtain ⟨b, o, rfl, hlt, c0, c1, c2, c3, c4, c5, c6⟩ := (I.on L).at i hin
        have HT : Hid (_) := HO.out.trans (okR_step l i hin)
        have HC : Hid (∀ w, _) := fun w => specHold_val l[i] w
        clear HO HB
        by_cases hh : holdB l[i] = true
        · rw [hh] at HC
          have HT2 : Hid (holdsB l = (freeB (l.take i) l[i] && okR (l.take (i + 1)) (l.drop (i + 1)))) := by
            have := HT.out
            rw [hh, Bool.true_and] at this
            exact this
          have HPA : Hid (∀ w', Below wr.heap.size wr w' → At w' b o i l[i]) := fun w' L' => Holds.put ((I.on L).on L') i hin
          clear HT hh
          obtain ⟨p, hp⟩ : ∃ p, l[i] = p := ⟨_, rfl⟩
          have HPE : Hid (_) := hp
          rw [hp] at c0 c1 c2 c3 c4 c5 c6 HC HT2 HPA
          clear hp
          go_wp2_with fail
          refine (HC.out _).mono ?_
          rintro e w1 ⟨rfl, L1⟩
          have K1 := join_below L L1
          have HJ : Hid (∀ w', Below w1.heap.size w1 w' → At w' b o i p) := fun w' L' => HPA.out w' (join_below L1 L')
          have hlt1 := Nat.lt_of_lt_of_le hlt L1.size
          clear L L1 c0 c1 c2 c3 c4 c5 c6 HC HPA hlt wr
          obtain ⟨W0, hW0⟩ : ∃ W0, W0 = w1 := ⟨_, rfl⟩
          subst hW0
          go_wp2
          go_loopw [4] (fun x wr => ∃ j : Nat, j ≤ i ∧ x = .int .i64 j ∧ Below W0.heap.size W0 wr ∧ Hid (∀ j' (hj : j' < l.length), j' < j → meetB p l[j'] = false)) (fun x _ => i - (intOf x).toNat)
          case atStart => exact ⟨0, by omega, rfl, Below.refl _ _, fun j' _ h => by omega⟩
          case round =>
            obtain ⟨j, hj, rfl, LZ, HF⟩ := hrel
            by_cases hjn : j < i
            · have hjl : j < l.length := by omega
              have hlt : b < wr.heap.size := Nat.lt_of_lt_of_le hlt1 LZ.size
              have HP : Hid (At wr b o i p) := HJ.out wr LZ
              have HQ : Hid (At wr b o j l[j]) := Holds.put (I.on (join_below K1 LZ)) j hjl
              have HM : Hid (∀ w, _) := fun w => specMeet_val p l[j] w
              by_cases hm : meetB p l[j] = true
              · rw [hm] at HM
                have HV : Hid (holdsB l = false) := by
                  show holdsB l = false
                  rw [HT2.out, free_no hjl hjn hm]
                  rfl
                generalize l[j] = q at *
                clear HF hm HT2 HPE
                go_wp2
                refine wp_region_held_drew (S := (fun w' => At w' b o i p ∧ At w' b o j q)) (by kernel_rfl) ?_ (fun hHeld => ?_)
                · exact ⟨HP.out, HQ.out⟩
                refine wpAnyH_take (i := 0) (v := .slice (some ⟨b, o, none⟩) l.length cap) rfl (by kernel_rfl) (by kernel_rfl) (by kernel_rfl) (fun _ _ _ h => h) (Or.inl ⟨by kernel_rfl, fun w hSw => by first | (go_simp; done) | (dsimp only at hSw; obtain ⟨⟨x0, x1, x2, x3, x4, x5, x6⟩, ⟨y0, y1, y2, y3, y4, y5, y6⟩⟩ := hSw; go_simp; done) | rfl⟩) (by assumption) ?_
                simp only [Act.put, List.getElem_toArray, List.getElem_cons_succ, List.getElem_cons_zero, List.setIfInBounds_toArray, List.set_cons_succ, List.set_cons_zero]
                refine wpAnyH_take (i := 1) (v := .int .i64 i) rfl (by kernel_rfl) (by kernel_rfl) (by kernel_rfl) (fun _ _ _ h => h) (Or.inl ⟨by kernel_rfl, fun w hSw => by first | (go_simp; done) | (dsimp only at hSw; obtain ⟨⟨x0, x1, x2, x3, x4, x5, x6⟩, ⟨y0, y1, y2, y3, y4, y5, y6⟩⟩ := hSw; go_simp; done) | rfl⟩) (by assumption) ?_
                simp only [Act.put, List.getElem_toArray, List.getElem_cons_succ, List.getElem_cons_zero, List.setIfInBounds_toArray, List.set_cons_succ, List.set_cons_zero]
                refine wpAnyH_take (i := 2) (v := .pointer (some ⟨b, o + i * 7, none⟩)) rfl (by kernel_rfl) (by kernel_rfl) (by kernel_rfl) (fun _ _ _ h => h) (Or.inl ⟨by kernel_rfl, fun w hSw => by first | (go_simp; done) | (dsimp only at hSw; obtain ⟨⟨x0, x1, x2, x3, x4, x5, x6⟩, ⟨y0, y1, y2, y3, y4, y5, y6⟩⟩ := hSw; go_simp; done) | rfl⟩) (by assumption) ?_
                simp only [Act.put, List.getElem_toArray, List.getElem_cons_succ, List.getElem_cons_zero, List.setIfInBounds_toArray, List.set_cons_succ, List.set_cons_zero]
                refine wpAnyH_take (i := 3) (v := .agg #[.int .i64 p.tr, .int .i64 p.dy, .int .i64 p.co, .int .i64 p.se, .int .i64 p.ba, .int .i64 p.be, .int .i64 p.od]) rfl (by kernel_rfl) (by kernel_rfl) (by kernel_rfl) (fun _ _ _ h => h) (Or.inl ⟨by kernel_rfl, fun w hSw => by first | (go_simp; done) | (dsimp only at hSw; obtain ⟨⟨x0, x1, x2, x3, x4, x5, x6⟩, ⟨y0, y1, y2, y3, y4, y5, y6⟩⟩ := hSw; go_simp; done) | rfl⟩) (by assumption) ?_
                simp only [Act.put, List.getElem_toArray, List.getElem_cons_succ, List.getElem_cons_zero, List.setIfInBounds_toArray, List.set_cons_succ, List.set_cons_zero]
                refine wpAnyH_take (i := 4) (v := .slice (some ⟨b, o, none⟩) l.length cap) rfl (by kernel_rfl) (by kernel_rfl) (by kernel_rfl) (fun _ _ _ h => h) (Or.inl ⟨by kernel_rfl, fun w hSw => by first | (go_simp; done) | (dsimp only at hSw; obtain ⟨⟨x0, x1, x2, x3, x4, x5, x6⟩, ⟨y0, y1, y2, y3, y4, y5, y6⟩⟩ := hSw; go_simp; done) | rfl⟩) (by assumption) ?_
                simp only [Act.put, List.getElem_toArray, List.getElem_cons_succ, List.getElem_cons_zero, List.setIfInBounds_toArray, List.set_cons_succ, List.set_cons_zero]
                refine wpAnyH_take (i := 5) (v := .int .i64 j) rfl (by kernel_rfl) (by kernel_rfl) (by kernel_rfl) (fun _ _ _ h => h) (Or.inl ⟨by kernel_rfl, fun w hSw => by first | (go_simp; done) | (dsimp only at hSw; obtain ⟨⟨x0, x1, x2, x3, x4, x5, x6⟩, ⟨y0, y1, y2, y3, y4, y5, y6⟩⟩ := hSw; go_simp; done) | rfl⟩) (by assumption) ?_
                simp only [Act.put, List.getElem_toArray, List.getElem_cons_succ, List.getElem_cons_zero, List.setIfInBounds_toArray, List.set_cons_succ, List.set_cons_zero]
                refine wpAnyH_take (i := 6) (v := .pointer (some ⟨b, o + j * 7, none⟩)) rfl (by kernel_rfl) (by kernel_rfl) (by kernel_rfl) (fun _ _ _ h => h) (Or.inl ⟨by kernel_rfl, fun w hSw => by first | (go_simp; done) | (dsimp only at hSw; obtain ⟨⟨x0, x1, x2, x3, x4, x5, x6⟩, ⟨y0, y1, y2, y3, y4, y5, y6⟩⟩ := hSw; go_simp; done) | rfl⟩) (by assumption) ?_
                simp only [Act.put, List.getElem_toArray, List.getElem_cons_succ, List.getElem_cons_zero, List.setIfInBounds_toArray, List.set_cons_succ, List.set_cons_zero]
                refine wpAnyH_take (i := 7) (v := .agg #[.int .i64 q.tr, .int .i64 q.dy, .int .i64 q.co, .int .i64 q.se, .int .i64 q.ba, .int .i64 q.be, .int .i64 q.od]) rfl (by kernel_rfl) (by kernel_rfl) (by kernel_rfl) (fun _ _ _ h => h) (Or.inl ⟨by kernel_rfl, fun w hSw => by first | (go_simp; done) | (dsimp only at hSw; obtain ⟨⟨x0, x1, x2, x3, x4, x5, x6⟩, ⟨y0, y1, y2, y3, y4, y5, y6⟩⟩ := hSw; go_simp; done) | rfl⟩) (by assumption) ?_
                simp only [Act.put, List.getElem_toArray, List.getElem_cons_succ, List.getElem_cons_zero, List.setIfInBounds_toArray, List.set_cons_succ, List.set_cons_zero]
                refine wpAnyH_ready (rs := [8]) (by kernel_rfl) (by simp) ?_
                refine AllReadyH.cons rfl (fun K hK => ?_) AllReadyH.nil
                go_simp
                go_wp2_with (go_at_call 105; (with_reducible refine (HM.out _).mono ?_); rintro e w3 ⟨rfl, L3⟩; have K3 : Below wr.heap.size wr w3 := (by first | exact L3 | exact ((Below.refl _ _).drew).trans L3))
                refine hK.out _ _ ?_ (fun hHeld2 => ?_)
                · exact ⟨HP.out.on K3 hlt, HQ.out.on K3 hlt⟩
                clear hK K hHeld
                have hHeld := hHeld2
                clear hHeld2
                refine wpAnyH_done (by kernel_rfl) ?_ _
                go_wp2
                go_ret
                exact ⟨by rw [HV.out] <;> rfl, join_below K1 (join_below LZ K3)⟩
              · have hm : meetB p l[j] = false := Bool.eq_false_iff.2 hm
                rw [hm] at HM
                have HF2 : Hid (∀ j' (hj : j' < l.length), j' < j + 1 → meetB p l[j'] = false) := by
                  intro j' hj' hlt'
                  by_cases e : j' = j
                  · subst e; exact hm
                  · exact HF.out j' hj' (by omega)
                generalize l[j] = q at *
                clear HF hm HPE
                go_wp2
                refine wp_region_held_drew (S := (fun w' => At w' b o i p ∧ At w' b o j q)) (by kernel_rfl) ?_ (fun hHeld => ?_)
                · exact ⟨HP.out, HQ.out⟩
                refine wpAnyH_take (i := 0) (v := .slice (some ⟨b, o, none⟩) l.length cap) rfl (by kernel_rfl) (by kernel_rfl) (by kernel_rfl) (fun _ _ _ h => h) (Or.inl ⟨by kernel_rfl, fun w hSw => by first | (go_simp; done) | (dsimp only at hSw; obtain ⟨⟨x0, x1, x2, x3, x4, x5, x6⟩, ⟨y0, y1, y2, y3, y4, y5, y6⟩⟩ := hSw; go_simp; done) | rfl⟩) (by assumption) ?_
                simp only [Act.put, List.getElem_toArray, List.getElem_cons_succ, List.getElem_cons_zero, List.setIfInBounds_toArray, List.set_cons_succ, List.set_cons_zero]
                refine wpAnyH_take (i := 1) (v := .int .i64 i) rfl (by kernel_rfl) (by kernel_rfl) (by kernel_rfl) (fun _ _ _ h => h) (Or.inl ⟨by kernel_rfl, fun w hSw => by first | (go_simp; done) | (dsimp only at hSw; obtain ⟨⟨x0, x1, x2, x3, x4, x5, x6⟩, ⟨y0, y1, y2, y3, y4, y5, y6⟩⟩ := hSw; go_simp; done) | rfl⟩) (by assumption) ?_
                simp only [Act.put, List.getElem_toArray, List.getElem_cons_succ, List.getElem_cons_zero, List.setIfInBounds_toArray, List.set_cons_succ, List.set_cons_zero]
                refine wpAnyH_take (i := 2) (v := .pointer (some ⟨b, o + i * 7, none⟩)) rfl (by kernel_rfl) (by kernel_rfl) (by kernel_rfl) (fun _ _ _ h => h) (Or.inl ⟨by kernel_rfl, fun w hSw => by first | (go_simp; done) | (dsimp only at hSw; obtain ⟨⟨x0, x1, x2, x3, x4, x5, x6⟩, ⟨y0, y1, y2, y3, y4, y5, y6⟩⟩ := hSw; go_simp; done) | rfl⟩) (by assumption) ?_
                simp only [Act.put, List.getElem_toArray, List.getElem_cons_succ, List.getElem_cons_zero, List.setIfInBounds_toArray, List.set_cons_succ, List.set_cons_zero]
                refine wpAnyH_take (i := 3) (v := .agg #[.int .i64 p.tr, .int .i64 p.dy, .int .i64 p.co, .int .i64 p.se, .int .i64 p.ba, .int .i64 p.be, .int .i64 p.od]) rfl (by kernel_rfl) (by kernel_rfl) (by kernel_rfl) (fun _ _ _ h => h) (Or.inl ⟨by kernel_rfl, fun w hSw => by first | (go_simp; done) | (dsimp only at hSw; obtain ⟨⟨x0, x1, x2, x3, x4, x5, x6⟩, ⟨y0, y1, y2, y3, y4, y5, y6⟩⟩ := hSw; go_simp; done) | rfl⟩) (by assumption) ?_
                simp only [Act.put, List.getElem_toArray, List.getElem_cons_succ, List.getElem_cons_zero, List.setIfInBounds_toArray, List.set_cons_succ, List.set_cons_zero]
                refine wpAnyH_take (i := 4) (v := .slice (some ⟨b, o, none⟩) l.length cap) rfl (by kernel_rfl) (by kernel_rfl) (by kernel_rfl) (fun _ _ _ h => h) (Or.inl ⟨by kernel_rfl, fun w hSw => by first | (go_simp; done) | (dsimp only at hSw; obtain ⟨⟨x0, x1, x2, x3, x4, x5, x6⟩, ⟨y0, y1, y2, y3, y4, y5, y6⟩⟩ := hSw; go_simp; done) | rfl⟩) (by assumption) ?_
                simp only [Act.put, List.getElem_toArray, List.getElem_cons_succ, List.getElem_cons_zero, List.setIfInBounds_toArray, List.set_cons_succ, List.set_cons_zero]
                refine wpAnyH_take (i := 5) (v := .int .i64 j) rfl (by kernel_rfl) (by kernel_rfl) (by kernel_rfl) (fun _ _ _ h => h) (Or.inl ⟨by kernel_rfl, fun w hSw => by first | (go_simp; done) | (dsimp only at hSw; obtain ⟨⟨x0, x1, x2, x3, x4, x5, x6⟩, ⟨y0, y1, y2, y3, y4, y5, y6⟩⟩ := hSw; go_simp; done) | rfl⟩) (by assumption) ?_
                simp only [Act.put, List.getElem_toArray, List.getElem_cons_succ, List.getElem_cons_zero, List.setIfInBounds_toArray, List.set_cons_succ, List.set_cons_zero]
                refine wpAnyH_take (i := 6) (v := .pointer (some ⟨b, o + j * 7, none⟩)) rfl (by kernel_rfl) (by kernel_rfl) (by kernel_rfl) (fun _ _ _ h => h) (Or.inl ⟨by kernel_rfl, fun w hSw => by first | (go_simp; done) | (dsimp only at hSw; obtain ⟨⟨x0, x1, x2, x3, x4, x5, x6⟩, ⟨y0, y1, y2, y3, y4, y5, y6⟩⟩ := hSw; go_simp; done) | rfl⟩) (by assumption) ?_
                simp only [Act.put, List.getElem_toArray, List.getElem_cons_succ, List.getElem_cons_zero, List.setIfInBounds_toArray, List.set_cons_succ, List.set_cons_zero]
                refine wpAnyH_take (i := 7) (v := .agg #[.int .i64 q.tr, .int .i64 q.dy, .int .i64 q.co, .int .i64 q.se, .int .i64 q.ba, .int .i64 q.be, .int .i64 q.od]) rfl (by kernel_rfl) (by kernel_rfl) (by kernel_rfl) (fun _ _ _ h => h) (Or.inl ⟨by kernel_rfl, fun w hSw => by first | (go_simp; done) | (dsimp only at hSw; obtain ⟨⟨x0, x1, x2, x3, x4, x5, x6⟩, ⟨y0, y1, y2, y3, y4, y5, y6⟩⟩ := hSw; go_simp; done) | rfl⟩) (by assumption) ?_
                simp only [Act.put, List.getElem_toArray, List.getElem_cons_succ, List.getElem_cons_zero, List.setIfInBounds_toArray, List.set_cons_succ, List.set_cons_zero]
                refine wpAnyH_ready (rs := [8]) (by kernel_rfl) (by simp) ?_
                refine AllReadyH.cons rfl (fun K hK => ?_) AllReadyH.nil
                go_simp
                go_wp2_with (go_at_call 105; (with_reducible refine (HM.out _).mono ?_); rintro e w3 ⟨rfl, L3⟩; have K3 : Below wr.heap.size wr w3 := (by first | exact L3 | exact ((Below.refl _ _).drew).trans L3))
                refine hK.out _ _ ?_ (fun hHeld2 => ?_)
                · exact ⟨HP.out.on K3 hlt, HQ.out.on K3 hlt⟩
                clear hK K hHeld
                have hHeld := hHeld2
                clear hHeld2
                refine wpAnyH_done (by kernel_rfl) ?_ _
                have K4 := join_below LZ K3
                go_wp2
                go_roundw
                case rel => exact ⟨j + 1, by omega, by go_num, K4, HF2⟩
                case measure => simp [intOf]; omega
            · have HV : Hid (holdsB l = okR (l.take (i + 1)) (l.drop (i + 1))) := by
                show _ = _
                rw [HT2.out, free_yes (fun j' hj' h => HF.out j' hj' (by omega)), Bool.true_and]
              have K2 := join_below K1 LZ
              clear HF HT2 HPE HJ LZ
              go_wp2
              go_roundw
              case rel => exact ⟨i + 1, by omega, by go_num, K2, HV⟩
              case measure => simp [intOf]; omega
        · have hh : holdB l[i] = false := Bool.eq_false_iff.2 hh
          rw [hh] at HC
          have HV : Hid (holdsB l = false) := by
            have := HT.out
            rw [hh, Bool.false_and] at this
            exact this
          generalize l[i] = p at *
          clear HT hh
          go_wp2_with fail
          refine (HC.out _).mono ?_
          rintro e w1 ⟨rfl, L1⟩
          go_wp2
          go_ret
          exact ⟨by rw [HV.out] <;> rfl, join_below L L1⟩
      · have HV : Hid (holdsB l = true) := HO.out.trans (okR_end l i (by omega))
        go_wp2
        go_ret
        exact ⟨by rw [HV.out] <;> rfl, L⟩
  · have HB : Hid (holdsB l = false) := by simp [holdsB, h4, Hid]
    have d4 : decide (400 < (l.length : Int)) = true := decide_eq_true (by omega)
    clear h4
    go_enter Tryz.func63, Tryz.ntmps63
    go_wp2
    go_ret
    exact ⟨by rw [HB.out] <;> rfl, Below.refl _ _⟩

end Se
end Go.Proofs.YtmoinacceildcaaGreatDoor

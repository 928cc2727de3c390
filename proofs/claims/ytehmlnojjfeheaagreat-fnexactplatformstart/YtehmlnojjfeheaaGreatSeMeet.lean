/- Keys of holds, and whether two holds meet, of the program and of the model. -/
import Derived.Test.YtehmlnojjfeheaaGreatSeOpen
import Derived.Deep.RegionHeld3
import Derived.Laws.StructEq
namespace Go.Proofs.YtehmlnojjfeheaaGreat
namespace Se
open Go.ChangeShapes Go.WideShapes Go.ChangeAt Go.RowKit
open Pk (new_below join_below cell_at heap_new frozen_at lt_of kept heap_old Drawn info_of own_form own_below Room)
set_option linter.unusedSimpArgs false
set_option linter.unusedVariables false

/-- What two holds have in common that may meet. -/
structure Ky where
  tr : Int
  dy : Int
  co : Int
  se : Int
deriving DecidableEq

def key (p : Hl) : Ky := ⟨p.tr, p.dy, p.co, p.se⟩

/-- It as a value. -/
abbrev kyV (k : Ky) : Value := .agg #[.int .i64 k.tr, .int .i64 k.dy, .int .i64 k.co, .int .i64 k.se]

/-- Whether two meet. -/
def meetB (p q : Hl) : Bool := decide (key p = key q) && (decide (p.ba < q.be) && decide (q.ba < p.be))

theorem key_eq {p q : Hl} : key p = key q ↔ p.tr = q.tr ∧ p.dy = q.dy ∧ p.co = q.co ∧ p.se = q.se := by
  unfold key
  constructor
  · intro h
    simp only [Ky.mk.injEq] at h
    exact h
  · rintro ⟨h1, h2, h3, h4⟩
    rw [h1, h2, h3, h4]

theorem meet_comm (p q : Hl) : meetB p q = meetB q p := by
  unfold meetB
  rw [show decide (key p = key q) = decide (key q = key p) from decide_eq_decide.2 eq_comm, Bool.and_comm (decide (p.ba < q.be))]

/-- A box of a hold. -/
def Bx (w : World) (b : Nat) (p : Hl) : Prop := w.cell? ⟨b, 0, none⟩ = some (.int .i64 p.tr) ∧ w.cell? ⟨b, 1, none⟩ = some (.int .i64 p.dy) ∧ w.cell? ⟨b, 2, none⟩ = some (.int .i64 p.co) ∧ w.cell? ⟨b, 3, none⟩ = some (.int .i64 p.se) ∧ w.cell? ⟨b, 4, none⟩ = some (.int .i64 p.ba) ∧ w.cell? ⟨b, 5, none⟩ = some (.int .i64 p.be) ∧ w.cell? ⟨b, 6, none⟩ = some (.int .i64 p.od)

theorem Bx.on {w w1 : World} {b B : Nat} {p : Hl} (h : Bx w b p) (L : Below B w w1) (hb : b < B) : Bx w1 b p := by
  unfold Bx
  rw [L.cell (p := ⟨b, 0, none⟩) hb, L.cell (p := ⟨b, 1, none⟩) hb, L.cell (p := ⟨b, 2, none⟩) hb, L.cell (p := ⟨b, 3, none⟩) hb, L.cell (p := ⟨b, 4, none⟩) hb, L.cell (p := ⟨b, 5, none⟩) hb, L.cell (p := ⟨b, 6, none⟩) hb]
  exact h

theorem Bx.of {w : World} {b : Nat} {p : Hl} {t : TypeId} {f : Nat × Nat} (h : w.heap[b]? = some (.cells #[.int .i64 p.tr, .int .i64 p.dy, .int .i64 p.co, .int .i64 p.se, .int .i64 p.ba, .int .i64 p.be, .int .i64 p.od] t f)) : Bx w b p := ⟨cell_at h 0, cell_at h 1, cell_at h 2, cell_at h 3, cell_at h 4, cell_at h 5, cell_at h 6⟩

theorem key_val (p : Hl) (w : World) : Calls Tryz.prog 100 #[lgV p] w fun e w' => e = .returned (.agg #[.int .i64 p.tr, .int .i64 p.dy, .int .i64 p.co, .int .i64 p.se]) ∧ Below w.heap.size w w' := by
  go_enter Tryz.func100, Tryz.ntmps100
  go_wp2
  refine bodyPost_ret (v := .agg #[.int .i64 p.tr, .int .i64 p.dy, .int .i64 p.co, .int .i64 p.se]) (by simp [results, Tryz.results100, go_sem]) rfl ?_
  refine ⟨rfl, ?_⟩
  (repeat' (first | apply Below.setCell | apply Below.alloc | exact Below.refl _ _)) <;> first | (simp; done) | (simp; omega)

theorem key_run (p q : Hl) (w : World) : (binOp .eql 148 (.agg #[.int .i64 p.tr, .int .i64 p.dy, .int .i64 p.co, .int .i64 p.se]) (.agg #[.int .i64 q.tr, .int .i64 q.dy, .int .i64 q.co, .int .i64 q.se])).run Tryz.prog w = .ok (.bool (decide (key p = key q))) w := by
  rw [run_eql_struct, run_equalIn_struct w 9999 148 _ _ (by kernel_rfl) (by kernel_rfl)]
  have hf : (Tryz.prog.fieldsOf 148).toList.map (fun f => (f.name == "_", f.type, f.offset)) = [(false, 3, 0), (false, 3, 1), (false, 3, 2), (false, 3, 3)] := by kernel_rfl
  generalize (Tryz.prog.fieldsOf 148).toList = l at hf
  obtain ⟨f0, l, rfl, e0, hf⟩ := List.map_eq_cons_iff.1 hf
  obtain ⟨f1, l, rfl, e1, hf⟩ := List.map_eq_cons_iff.1 hf
  obtain ⟨f2, l, rfl, e2, hf⟩ := List.map_eq_cons_iff.1 hf
  obtain ⟨f3, l, rfl, e3, hf⟩ := List.map_eq_cons_iff.1 hf
  obtain rfl := List.map_eq_nil_iff.1 hf
  simp only [Prod.mk.injEq, beq_eq_false_iff_ne] at e0 e1 e2 e3
  obtain ⟨n0, t0, o0⟩ := e0
  obtain ⟨n1, t1, o1⟩ := e1
  obtain ⟨n2, t2, o2⟩ := e2
  obtain ⟨n3, t3, o3⟩ := e3
  simp only [Op.eqFields, if_pos n0, if_pos n1, if_pos n2, if_pos n3, t0, t1, t2, t3, o0, o1, o2, o3]
  by_cases h0 : p.tr = q.tr
  · by_cases h1 : p.dy = q.dy
    · by_cases h2 : p.co = q.co
      · by_cases h3 : p.se = q.se
        · have hk : key p = key q := key_eq.2 ⟨h0, h1, h2, h3⟩
          simp [part, go_sem, Tryz.underlying3, run_equalIn_int, h0, h1, h2, h3, hk, Result.andThen]
        · have hk : ¬ key p = key q := fun h => h3 (key_eq.1 h).2.2.2
          simp [part, go_sem, Tryz.underlying3, run_equalIn_int, h0, h1, h2, h3, hk, Result.andThen]
      · have hk : ¬ key p = key q := fun h => h2 (key_eq.1 h).2.2.1
        simp [part, go_sem, Tryz.underlying3, run_equalIn_int, h0, h1, h2, hk, Result.andThen]
    · have hk : ¬ key p = key q := fun h => h1 (key_eq.1 h).2.1
      simp [part, go_sem, Tryz.underlying3, run_equalIn_int, h0, h1, hk, Result.andThen]
  · have hk : ¬ key p = key q := fun h => h0 (key_eq.1 h).1
    simp [part, go_sem, Tryz.underlying3, run_equalIn_int, h0, hk, Result.andThen]

set_option maxRecDepth 100000 in
set_option maxHeartbeats 4000000 in
theorem implMeet_yes (p q : Hl) (w : World) (h0 : key p = key q) (h1 : p.ba < q.be) (h2 : q.ba < p.be) :
    Calls Tryz.prog 105 #[lgV p, lgV q] w fun e w' => e = .returned (.bool true) ∧ Below w.heap.size w w' := by
  have HKp : Hid (∀ w, _) := fun w => key_val p w
  have HKq : Hid (∀ w, _) := fun w => key_val q w
  have HR : ∀ w, (binOp .eql 148 (.agg #[.int .i64 p.tr, .int .i64 p.dy, .int .i64 p.co, .int .i64 p.se]) (.agg #[.int .i64 q.tr, .int .i64 q.dy, .int .i64 q.co, .int .i64 q.se])).run Tryz.prog w = .ok (.bool true) w := fun w => by rw [key_run]; simp [h0]
  have d1 : decide (p.ba < q.be) = true := decide_eq_true h1
  have d2 : decide (q.ba < p.be) = true := decide_eq_true h2
  clear h0 h1 h2
  have B1 : Bx ((w.alloc (.cells #[.int .i64 p.tr, .int .i64 p.dy, .int .i64 p.co, .int .i64 p.se, .int .i64 p.ba, .int .i64 p.be, .int .i64 p.od] 81)).alloc (.cells #[.int .i64 q.tr, .int .i64 q.dy, .int .i64 q.co, .int .i64 q.se, .int .i64 q.ba, .int .i64 q.be, .int .i64 q.od] 81)) w.heap.size p := Bx.of (heap_old (heap_new _ _) _)
  have B2 : Bx ((w.alloc (.cells #[.int .i64 p.tr, .int .i64 p.dy, .int .i64 p.co, .int .i64 p.se, .int .i64 p.ba, .int .i64 p.be, .int .i64 p.od] 81)).alloc (.cells #[.int .i64 q.tr, .int .i64 q.dy, .int .i64 q.co, .int .i64 q.se, .int .i64 q.ba, .int .i64 q.be, .int .i64 q.od] 81)) (w.heap.size + 1) q := by
    have h := Bx.of (p := q) (heap_new (w.alloc (.cells #[.int .i64 p.tr, .int .i64 p.dy, .int .i64 p.co, .int .i64 p.se, .int .i64 p.ba, .int .i64 p.be, .int .i64 p.od] 81)) (.cells #[.int .i64 q.tr, .int .i64 q.dy, .int .i64 q.co, .int .i64 q.se, .int .i64 q.ba, .int .i64 q.be, .int .i64 q.od] 81))
    simpa using h
  have HN : Hid (Below w.heap.size w ((w.alloc (.cells #[.int .i64 p.tr, .int .i64 p.dy, .int .i64 p.co, .int .i64 p.se, .int .i64 p.ba, .int .i64 p.be, .int .i64 p.od] 81)).alloc (.cells #[.int .i64 q.tr, .int .i64 q.dy, .int .i64 q.co, .int .i64 q.se, .int .i64 q.ba, .int .i64 q.be, .int .i64 q.od] 81))) := join_below (new_below _ _) (new_below _ _)
  have HZ : Hid (w.heap.size + 2 ≤ ((w.alloc (.cells #[.int .i64 p.tr, .int .i64 p.dy, .int .i64 p.co, .int .i64 p.se, .int .i64 p.ba, .int .i64 p.be, .int .i64 p.od] 81)).alloc (.cells #[.int .i64 q.tr, .int .i64 q.dy, .int .i64 q.co, .int .i64 q.se, .int .i64 q.ba, .int .i64 q.be, .int .i64 q.od] 81)).heap.size) := by simp [Hid]
  go_enter Tryz.func105, Tryz.ntmps105
  go_wp2
  generalize (w.alloc (.cells #[.int .i64 p.tr, .int .i64 p.dy, .int .i64 p.co, .int .i64 p.se, .int .i64 p.ba, .int .i64 p.be, .int .i64 p.od] 81)).alloc (.cells #[.int .i64 q.tr, .int .i64 q.dy, .int .i64 q.co, .int .i64 q.se, .int .i64 q.ba, .int .i64 q.be, .int .i64 q.od] 81) = W at *
  obtain ⟨b, hb0⟩ : ∃ b, w.heap.size = b := ⟨_, rfl⟩
  obtain ⟨c, hc0⟩ : ∃ c, w.heap.size + 1 = c := ⟨_, rfl⟩
  have hb : b < W.heap.size := by have := HZ.out; omega
  have hc : c < W.heap.size := by have := HZ.out; omega
  rw [hc0] at B2 ⊢
  rw [hb0] at B1 ⊢
  have HP : Hid (Bx W b p) := B1
  have HQ : Hid (Bx W c q) := B2
  clear hb0 hc0 HZ B1 B2
  refine wp_region_held_drew (S := (fun w' => Bx w' b p ∧ Bx w' c q)) (by kernel_rfl) ?_ (fun hHeld => ?_)
  · exact ⟨HP.out, HQ.out⟩
  refine wpAnyH_take (i := 0) (v := .agg #[.int .i64 p.tr, .int .i64 p.dy, .int .i64 p.co, .int .i64 p.se, .int .i64 p.ba, .int .i64 p.be, .int .i64 p.od]) rfl (by kernel_rfl) (by kernel_rfl) (by kernel_rfl) (fun _ _ _ h => h) (Or.inl ⟨by kernel_rfl, fun w hSw => by first | (go_simp; done) | (dsimp only at hSw; obtain ⟨⟨x0, x1, x2, x3, x4, x5, x6⟩, ⟨y0, y1, y2, y3, y4, y5, y6⟩⟩ := hSw; go_simp; done) | rfl⟩) (by assumption) ?_
  simp only [Act.put, List.getElem_toArray, List.getElem_cons_succ, List.getElem_cons_zero, List.setIfInBounds_toArray, List.set_cons_succ, List.set_cons_zero]
  refine wpAnyH_take (i := 2) (v := .agg #[.int .i64 q.tr, .int .i64 q.dy, .int .i64 q.co, .int .i64 q.se, .int .i64 q.ba, .int .i64 q.be, .int .i64 q.od]) rfl (by kernel_rfl) (by kernel_rfl) (by kernel_rfl) (fun _ _ _ h => h) (Or.inl ⟨by kernel_rfl, fun w hSw => by first | (go_simp; done) | (dsimp only at hSw; obtain ⟨⟨x0, x1, x2, x3, x4, x5, x6⟩, ⟨y0, y1, y2, y3, y4, y5, y6⟩⟩ := hSw; go_simp; done) | rfl⟩) (by assumption) ?_
  simp only [Act.put, List.getElem_toArray, List.getElem_cons_succ, List.getElem_cons_zero, List.setIfInBounds_toArray, List.set_cons_succ, List.set_cons_zero]
  refine wpAnyH_ready (rs := [1]) (by kernel_rfl) (by simp) ?_
  refine AllReadyH.cons rfl (fun K hK => ?_) AllReadyH.nil
  go_simp
  go_wp2_with (go_at_call 100; (with_reducible refine (HKp.out _).mono ?_); rintro e w3 ⟨rfl, L3⟩; have K3 : Below W.heap.size W w3 := (by first | exact L3 | exact ((Below.refl _ _).drew).trans L3 | exact K3.trans (L3.mono K3.size)))
  refine hK.out _ _ ?_ (fun hHeld2 => ?_)
  · exact ⟨HP.out.on K3 hb, HQ.out.on K3 hc⟩
  clear hK K hHeld
  have hHeld := hHeld2
  clear hHeld2
  refine wpAnyH_ready (rs := [3]) (by kernel_rfl) (by simp) ?_
  refine AllReadyH.cons rfl (fun K hK => ?_) AllReadyH.nil
  go_simp
  go_wp2_with (go_at_call 100; (with_reducible refine (HKq.out _).mono ?_); rintro e w3 ⟨rfl, L3⟩; have K3 : Below W.heap.size W w3 := (by first | exact L3 | exact ((Below.refl _ _).drew).trans L3 | exact K3.trans (L3.mono K3.size)))
  refine hK.out _ _ ?_ (fun hHeld2 => ?_)
  · exact ⟨HP.out.on K3 hb, HQ.out.on K3 hc⟩
  clear hK K hHeld
  have hHeld := hHeld2
  clear hHeld2
  refine wpAnyH_take (i := 4) (v := .bool true) rfl (by kernel_rfl) (by kernel_rfl) (by kernel_rfl) (fun _ _ _ h => h) (Or.inl ⟨by kernel_rfl, fun w hSw => by first | (go_simp; done) | (dsimp only at hSw; obtain ⟨⟨x0, x1, x2, x3, x4, x5, x6⟩, ⟨y0, y1, y2, y3, y4, y5, y6⟩⟩ := hSw; go_simp; done) | rfl⟩) (by assumption) ?_
  simp only [Act.put, List.getElem_toArray, List.getElem_cons_succ, List.getElem_cons_zero, List.setIfInBounds_toArray, List.set_cons_succ, List.set_cons_zero]
  refine wpAnyH_take (i := 5) (v := .bool true) rfl (by kernel_rfl) (by kernel_rfl) (by kernel_rfl) (fun _ _ _ h => h) (Or.inl ⟨by kernel_rfl, fun w hSw => by first | (go_simp; done) | (dsimp only at hSw; obtain ⟨⟨x0, x1, x2, x3, x4, x5, x6⟩, ⟨y0, y1, y2, y3, y4, y5, y6⟩⟩ := hSw; go_simp; done) | rfl⟩) (by assumption) ?_
  simp only [Act.put, List.getElem_toArray, List.getElem_cons_succ, List.getElem_cons_zero, List.setIfInBounds_toArray, List.set_cons_succ, List.set_cons_zero]
  refine wpAnyH_take (i := 6) (v := .pointer (some ⟨b, 4, none⟩)) rfl (by kernel_rfl) (by kernel_rfl) (by kernel_rfl) (fun _ _ _ h => h) (Or.inl ⟨by kernel_rfl, fun w hSw => by first | (go_simp; done) | (dsimp only at hSw; obtain ⟨⟨x0, x1, x2, x3, x4, x5, x6⟩, ⟨y0, y1, y2, y3, y4, y5, y6⟩⟩ := hSw; go_simp; done) | rfl⟩) (by assumption) ?_
  simp only [Act.put, List.getElem_toArray, List.getElem_cons_succ, List.getElem_cons_zero, List.setIfInBounds_toArray, List.set_cons_succ, List.set_cons_zero]
  refine wpAnyH_take (i := 7) (v := .int .i64 p.ba) rfl (by kernel_rfl) (by kernel_rfl) (by kernel_rfl) (fun _ _ _ h => h) (Or.inl ⟨by kernel_rfl, fun w hSw => by first | (go_simp; done) | (dsimp only at hSw; obtain ⟨⟨x0, x1, x2, x3, x4, x5, x6⟩, ⟨y0, y1, y2, y3, y4, y5, y6⟩⟩ := hSw; go_simp; done) | rfl⟩) (by assumption) ?_
  simp only [Act.put, List.getElem_toArray, List.getElem_cons_succ, List.getElem_cons_zero, List.setIfInBounds_toArray, List.set_cons_succ, List.set_cons_zero]
  refine wpAnyH_take (i := 8) (v := .pointer (some ⟨c, 5, none⟩)) rfl (by kernel_rfl) (by kernel_rfl) (by kernel_rfl) (fun _ _ _ h => h) (Or.inl ⟨by kernel_rfl, fun w hSw => by first | (go_simp; done) | (dsimp only at hSw; obtain ⟨⟨x0, x1, x2, x3, x4, x5, x6⟩, ⟨y0, y1, y2, y3, y4, y5, y6⟩⟩ := hSw; go_simp; done) | rfl⟩) (by assumption) ?_
  simp only [Act.put, List.getElem_toArray, List.getElem_cons_succ, List.getElem_cons_zero, List.setIfInBounds_toArray, List.set_cons_succ, List.set_cons_zero]
  refine wpAnyH_take (i := 9) (v := .int .i64 q.be) rfl (by kernel_rfl) (by kernel_rfl) (by kernel_rfl) (fun _ _ _ h => h) (Or.inl ⟨by kernel_rfl, fun w hSw => by first | (go_simp; done) | (dsimp only at hSw; obtain ⟨⟨x0, x1, x2, x3, x4, x5, x6⟩, ⟨y0, y1, y2, y3, y4, y5, y6⟩⟩ := hSw; go_simp; done) | rfl⟩) (by assumption) ?_
  simp only [Act.put, List.getElem_toArray, List.getElem_cons_succ, List.getElem_cons_zero, List.setIfInBounds_toArray, List.set_cons_succ, List.set_cons_zero]
  refine wpAnyH_take (i := 10) (v := .bool true) rfl (by kernel_rfl) (by kernel_rfl) (by kernel_rfl) (fun _ _ _ h => h) (Or.inl ⟨by kernel_rfl, fun w hSw => by first | (go_simp; done) | (dsimp only at hSw; obtain ⟨⟨x0, x1, x2, x3, x4, x5, x6⟩, ⟨y0, y1, y2, y3, y4, y5, y6⟩⟩ := hSw; go_simp; done) | rfl⟩) (by assumption) ?_
  simp only [Act.put, List.getElem_toArray, List.getElem_cons_succ, List.getElem_cons_zero, List.setIfInBounds_toArray, List.set_cons_succ, List.set_cons_zero]
  refine wpAnyH_take (i := 11) (v := .bool true) rfl (by kernel_rfl) (by kernel_rfl) (by kernel_rfl) (fun _ _ _ h => h) (Or.inl ⟨by kernel_rfl, fun w hSw => by first | (go_simp; done) | (dsimp only at hSw; obtain ⟨⟨x0, x1, x2, x3, x4, x5, x6⟩, ⟨y0, y1, y2, y3, y4, y5, y6⟩⟩ := hSw; go_simp; done) | rfl⟩) (by assumption) ?_
  simp only [Act.put, List.getElem_toArray, List.getElem_cons_succ, List.getElem_cons_zero, List.setIfInBounds_toArray, List.set_cons_succ, List.set_cons_zero]
  refine wpAnyH_take (i := 12) (v := .bool true) rfl (by kernel_rfl) (by kernel_rfl) (by kernel_rfl) (fun _ _ _ h => h) (Or.inl ⟨by kernel_rfl, fun w hSw => by first | (go_simp; done) | (dsimp only at hSw; obtain ⟨⟨x0, x1, x2, x3, x4, x5, x6⟩, ⟨y0, y1, y2, y3, y4, y5, y6⟩⟩ := hSw; go_simp; done) | rfl⟩) (by assumption) ?_
  simp only [Act.put, List.getElem_toArray, List.getElem_cons_succ, List.getElem_cons_zero, List.setIfInBounds_toArray, List.set_cons_succ, List.set_cons_zero]
  refine wpAnyH_take (i := 13) (v := .pointer (some ⟨c, 4, none⟩)) rfl (by kernel_rfl) (by kernel_rfl) (by kernel_rfl) (fun _ _ _ h => h) (Or.inl ⟨by kernel_rfl, fun w hSw => by first | (go_simp; done) | (dsimp only at hSw; obtain ⟨⟨x0, x1, x2, x3, x4, x5, x6⟩, ⟨y0, y1, y2, y3, y4, y5, y6⟩⟩ := hSw; go_simp; done) | rfl⟩) (by assumption) ?_
  simp only [Act.put, List.getElem_toArray, List.getElem_cons_succ, List.getElem_cons_zero, List.setIfInBounds_toArray, List.set_cons_succ, List.set_cons_zero]
  refine wpAnyH_take (i := 14) (v := .int .i64 q.ba) rfl (by kernel_rfl) (by kernel_rfl) (by kernel_rfl) (fun _ _ _ h => h) (Or.inl ⟨by kernel_rfl, fun w hSw => by first | (go_simp; done) | (dsimp only at hSw; obtain ⟨⟨x0, x1, x2, x3, x4, x5, x6⟩, ⟨y0, y1, y2, y3, y4, y5, y6⟩⟩ := hSw; go_simp; done) | rfl⟩) (by assumption) ?_
  simp only [Act.put, List.getElem_toArray, List.getElem_cons_succ, List.getElem_cons_zero, List.setIfInBounds_toArray, List.set_cons_succ, List.set_cons_zero]
  refine wpAnyH_take (i := 15) (v := .pointer (some ⟨b, 5, none⟩)) rfl (by kernel_rfl) (by kernel_rfl) (by kernel_rfl) (fun _ _ _ h => h) (Or.inl ⟨by kernel_rfl, fun w hSw => by first | (go_simp; done) | (dsimp only at hSw; obtain ⟨⟨x0, x1, x2, x3, x4, x5, x6⟩, ⟨y0, y1, y2, y3, y4, y5, y6⟩⟩ := hSw; go_simp; done) | rfl⟩) (by assumption) ?_
  simp only [Act.put, List.getElem_toArray, List.getElem_cons_succ, List.getElem_cons_zero, List.setIfInBounds_toArray, List.set_cons_succ, List.set_cons_zero]
  refine wpAnyH_take (i := 16) (v := .int .i64 p.be) rfl (by kernel_rfl) (by kernel_rfl) (by kernel_rfl) (fun _ _ _ h => h) (Or.inl ⟨by kernel_rfl, fun w hSw => by first | (go_simp; done) | (dsimp only at hSw; obtain ⟨⟨x0, x1, x2, x3, x4, x5, x6⟩, ⟨y0, y1, y2, y3, y4, y5, y6⟩⟩ := hSw; go_simp; done) | rfl⟩) (by assumption) ?_
  simp only [Act.put, List.getElem_toArray, List.getElem_cons_succ, List.getElem_cons_zero, List.setIfInBounds_toArray, List.set_cons_succ, List.set_cons_zero]
  refine wpAnyH_take (i := 17) (v := .bool true) rfl (by kernel_rfl) (by kernel_rfl) (by kernel_rfl) (fun _ _ _ h => h) (Or.inl ⟨by kernel_rfl, fun w hSw => by first | (go_simp; done) | (dsimp only at hSw; obtain ⟨⟨x0, x1, x2, x3, x4, x5, x6⟩, ⟨y0, y1, y2, y3, y4, y5, y6⟩⟩ := hSw; go_simp; done) | rfl⟩) (by assumption) ?_
  simp only [Act.put, List.getElem_toArray, List.getElem_cons_succ, List.getElem_cons_zero, List.setIfInBounds_toArray, List.set_cons_succ, List.set_cons_zero]
  refine wpAnyH_take (i := 18) (v := .bool true) rfl (by kernel_rfl) (by kernel_rfl) (by kernel_rfl) (fun _ _ _ h => h) (Or.inl ⟨by kernel_rfl, fun w hSw => by first | (go_simp; done) | (dsimp only at hSw; obtain ⟨⟨x0, x1, x2, x3, x4, x5, x6⟩, ⟨y0, y1, y2, y3, y4, y5, y6⟩⟩ := hSw; go_simp; done) | rfl⟩) (by assumption) ?_
  simp only [Act.put, List.getElem_toArray, List.getElem_cons_succ, List.getElem_cons_zero, List.setIfInBounds_toArray, List.set_cons_succ, List.set_cons_zero]
  refine wpAnyH_take (i := 19) (v := .bool true) rfl (by kernel_rfl) (by kernel_rfl) (by kernel_rfl) (fun _ _ _ h => h) (Or.inl ⟨by kernel_rfl, fun w hSw => by first | (go_simp; done) | (dsimp only at hSw; obtain ⟨⟨x0, x1, x2, x3, x4, x5, x6⟩, ⟨y0, y1, y2, y3, y4, y5, y6⟩⟩ := hSw; go_simp; done) | rfl⟩) (by assumption) ?_
  simp only [Act.put, List.getElem_toArray, List.getElem_cons_succ, List.getElem_cons_zero, List.setIfInBounds_toArray, List.set_cons_succ, List.set_cons_zero]
  refine wpAnyH_done (by kernel_rfl) ?_ _
  go_wp2
  go_ret
  exact ⟨rfl, join_below HN.out K3⟩

set_option maxRecDepth 100000 in
set_option maxHeartbeats 4000000 in
theorem implMeet_no2 (p q : Hl) (w : World) (h0 : key p = key q) (h1 : p.ba < q.be) (h2 : ¬ q.ba < p.be) :
    Calls Tryz.prog 105 #[lgV p, lgV q] w fun e w' => e = .returned (.bool false) ∧ Below w.heap.size w w' := by
  have HKp : Hid (∀ w, _) := fun w => key_val p w
  have HKq : Hid (∀ w, _) := fun w => key_val q w
  have HR : ∀ w, (binOp .eql 148 (.agg #[.int .i64 p.tr, .int .i64 p.dy, .int .i64 p.co, .int .i64 p.se]) (.agg #[.int .i64 q.tr, .int .i64 q.dy, .int .i64 q.co, .int .i64 q.se])).run Tryz.prog w = .ok (.bool true) w := fun w => by rw [key_run]; simp [h0]
  have d1 : decide (p.ba < q.be) = true := decide_eq_true h1
  have d2 : decide (q.ba < p.be) = false := decide_eq_false h2
  clear h0 h1 h2
  have B1 : Bx ((w.alloc (.cells #[.int .i64 p.tr, .int .i64 p.dy, .int .i64 p.co, .int .i64 p.se, .int .i64 p.ba, .int .i64 p.be, .int .i64 p.od] 81)).alloc (.cells #[.int .i64 q.tr, .int .i64 q.dy, .int .i64 q.co, .int .i64 q.se, .int .i64 q.ba, .int .i64 q.be, .int .i64 q.od] 81)) w.heap.size p := Bx.of (heap_old (heap_new _ _) _)
  have B2 : Bx ((w.alloc (.cells #[.int .i64 p.tr, .int .i64 p.dy, .int .i64 p.co, .int .i64 p.se, .int .i64 p.ba, .int .i64 p.be, .int .i64 p.od] 81)).alloc (.cells #[.int .i64 q.tr, .int .i64 q.dy, .int .i64 q.co, .int .i64 q.se, .int .i64 q.ba, .int .i64 q.be, .int .i64 q.od] 81)) (w.heap.size + 1) q := by
    have h := Bx.of (p := q) (heap_new (w.alloc (.cells #[.int .i64 p.tr, .int .i64 p.dy, .int .i64 p.co, .int .i64 p.se, .int .i64 p.ba, .int .i64 p.be, .int .i64 p.od] 81)) (.cells #[.int .i64 q.tr, .int .i64 q.dy, .int .i64 q.co, .int .i64 q.se, .int .i64 q.ba, .int .i64 q.be, .int .i64 q.od] 81))
    simpa using h
  have HN : Hid (Below w.heap.size w ((w.alloc (.cells #[.int .i64 p.tr, .int .i64 p.dy, .int .i64 p.co, .int .i64 p.se, .int .i64 p.ba, .int .i64 p.be, .int .i64 p.od] 81)).alloc (.cells #[.int .i64 q.tr, .int .i64 q.dy, .int .i64 q.co, .int .i64 q.se, .int .i64 q.ba, .int .i64 q.be, .int .i64 q.od] 81))) := join_below (new_below _ _) (new_below _ _)
  have HZ : Hid (w.heap.size + 2 ≤ ((w.alloc (.cells #[.int .i64 p.tr, .int .i64 p.dy, .int .i64 p.co, .int .i64 p.se, .int .i64 p.ba, .int .i64 p.be, .int .i64 p.od] 81)).alloc (.cells #[.int .i64 q.tr, .int .i64 q.dy, .int .i64 q.co, .int .i64 q.se, .int .i64 q.ba, .int .i64 q.be, .int .i64 q.od] 81)).heap.size) := by simp [Hid]
  go_enter Tryz.func105, Tryz.ntmps105
  go_wp2
  generalize (w.alloc (.cells #[.int .i64 p.tr, .int .i64 p.dy, .int .i64 p.co, .int .i64 p.se, .int .i64 p.ba, .int .i64 p.be, .int .i64 p.od] 81)).alloc (.cells #[.int .i64 q.tr, .int .i64 q.dy, .int .i64 q.co, .int .i64 q.se, .int .i64 q.ba, .int .i64 q.be, .int .i64 q.od] 81) = W at *
  obtain ⟨b, hb0⟩ : ∃ b, w.heap.size = b := ⟨_, rfl⟩
  obtain ⟨c, hc0⟩ : ∃ c, w.heap.size + 1 = c := ⟨_, rfl⟩
  have hb : b < W.heap.size := by have := HZ.out; omega
  have hc : c < W.heap.size := by have := HZ.out; omega
  rw [hc0] at B2 ⊢
  rw [hb0] at B1 ⊢
  have HP : Hid (Bx W b p) := B1
  have HQ : Hid (Bx W c q) := B2
  clear hb0 hc0 HZ B1 B2
  refine wp_region_held_drew (S := (fun w' => Bx w' b p ∧ Bx w' c q)) (by kernel_rfl) ?_ (fun hHeld => ?_)
  · exact ⟨HP.out, HQ.out⟩
  refine wpAnyH_take (i := 0) (v := .agg #[.int .i64 p.tr, .int .i64 p.dy, .int .i64 p.co, .int .i64 p.se, .int .i64 p.ba, .int .i64 p.be, .int .i64 p.od]) rfl (by kernel_rfl) (by kernel_rfl) (by kernel_rfl) (fun _ _ _ h => h) (Or.inl ⟨by kernel_rfl, fun w hSw => by first | (go_simp; done) | (dsimp only at hSw; obtain ⟨⟨x0, x1, x2, x3, x4, x5, x6⟩, ⟨y0, y1, y2, y3, y4, y5, y6⟩⟩ := hSw; go_simp; done) | rfl⟩) (by assumption) ?_
  simp only [Act.put, List.getElem_toArray, List.getElem_cons_succ, List.getElem_cons_zero, List.setIfInBounds_toArray, List.set_cons_succ, List.set_cons_zero]
  refine wpAnyH_take (i := 2) (v := .agg #[.int .i64 q.tr, .int .i64 q.dy, .int .i64 q.co, .int .i64 q.se, .int .i64 q.ba, .int .i64 q.be, .int .i64 q.od]) rfl (by kernel_rfl) (by kernel_rfl) (by kernel_rfl) (fun _ _ _ h => h) (Or.inl ⟨by kernel_rfl, fun w hSw => by first | (go_simp; done) | (dsimp only at hSw; obtain ⟨⟨x0, x1, x2, x3, x4, x5, x6⟩, ⟨y0, y1, y2, y3, y4, y5, y6⟩⟩ := hSw; go_simp; done) | rfl⟩) (by assumption) ?_
  simp only [Act.put, List.getElem_toArray, List.getElem_cons_succ, List.getElem_cons_zero, List.setIfInBounds_toArray, List.set_cons_succ, List.set_cons_zero]
  refine wpAnyH_ready (rs := [1]) (by kernel_rfl) (by simp) ?_
  refine AllReadyH.cons rfl (fun K hK => ?_) AllReadyH.nil
  go_simp
  go_wp2_with (go_at_call 100; (with_reducible refine (HKp.out _).mono ?_); rintro e w3 ⟨rfl, L3⟩; have K3 : Below W.heap.size W w3 := (by first | exact L3 | exact ((Below.refl _ _).drew).trans L3 | exact K3.trans (L3.mono K3.size)))
  refine hK.out _ _ ?_ (fun hHeld2 => ?_)
  · exact ⟨HP.out.on K3 hb, HQ.out.on K3 hc⟩
  clear hK K hHeld
  have hHeld := hHeld2
  clear hHeld2
  refine wpAnyH_ready (rs := [3]) (by kernel_rfl) (by simp) ?_
  refine AllReadyH.cons rfl (fun K hK => ?_) AllReadyH.nil
  go_simp
  go_wp2_with (go_at_call 100; (with_reducible refine (HKq.out _).mono ?_); rintro e w3 ⟨rfl, L3⟩; have K3 : Below W.heap.size W w3 := (by first | exact L3 | exact ((Below.refl _ _).drew).trans L3 | exact K3.trans (L3.mono K3.size)))
  refine hK.out _ _ ?_ (fun hHeld2 => ?_)
  · exact ⟨HP.out.on K3 hb, HQ.out.on K3 hc⟩
  clear hK K hHeld
  have hHeld := hHeld2
  clear hHeld2
  refine wpAnyH_take (i := 4) (v := .bool true) rfl (by kernel_rfl) (by kernel_rfl) (by kernel_rfl) (fun _ _ _ h => h) (Or.inl ⟨by kernel_rfl, fun w hSw => by first | (go_simp; done) | (dsimp only at hSw; obtain ⟨⟨x0, x1, x2, x3, x4, x5, x6⟩, ⟨y0, y1, y2, y3, y4, y5, y6⟩⟩ := hSw; go_simp; done) | rfl⟩) (by assumption) ?_
  simp only [Act.put, List.getElem_toArray, List.getElem_cons_succ, List.getElem_cons_zero, List.setIfInBounds_toArray, List.set_cons_succ, List.set_cons_zero]
  refine wpAnyH_take (i := 5) (v := .bool true) rfl (by kernel_rfl) (by kernel_rfl) (by kernel_rfl) (fun _ _ _ h => h) (Or.inl ⟨by kernel_rfl, fun w hSw => by first | (go_simp; done) | (dsimp only at hSw; obtain ⟨⟨x0, x1, x2, x3, x4, x5, x6⟩, ⟨y0, y1, y2, y3, y4, y5, y6⟩⟩ := hSw; go_simp; done) | rfl⟩) (by assumption) ?_
  simp only [Act.put, List.getElem_toArray, List.getElem_cons_succ, List.getElem_cons_zero, List.setIfInBounds_toArray, List.set_cons_succ, List.set_cons_zero]
  refine wpAnyH_take (i := 6) (v := .pointer (some ⟨b, 4, none⟩)) rfl (by kernel_rfl) (by kernel_rfl) (by kernel_rfl) (fun _ _ _ h => h) (Or.inl ⟨by kernel_rfl, fun w hSw => by first | (go_simp; done) | (dsimp only at hSw; obtain ⟨⟨x0, x1, x2, x3, x4, x5, x6⟩, ⟨y0, y1, y2, y3, y4, y5, y6⟩⟩ := hSw; go_simp; done) | rfl⟩) (by assumption) ?_
  simp only [Act.put, List.getElem_toArray, List.getElem_cons_succ, List.getElem_cons_zero, List.setIfInBounds_toArray, List.set_cons_succ, List.set_cons_zero]
  refine wpAnyH_take (i := 7) (v := .int .i64 p.ba) rfl (by kernel_rfl) (by kernel_rfl) (by kernel_rfl) (fun _ _ _ h => h) (Or.inl ⟨by kernel_rfl, fun w hSw => by first | (go_simp; done) | (dsimp only at hSw; obtain ⟨⟨x0, x1, x2, x3, x4, x5, x6⟩, ⟨y0, y1, y2, y3, y4, y5, y6⟩⟩ := hSw; go_simp; done) | rfl⟩) (by assumption) ?_
  simp only [Act.put, List.getElem_toArray, List.getElem_cons_succ, List.getElem_cons_zero, List.setIfInBounds_toArray, List.set_cons_succ, List.set_cons_zero]
  refine wpAnyH_take (i := 8) (v := .pointer (some ⟨c, 5, none⟩)) rfl (by kernel_rfl) (by kernel_rfl) (by kernel_rfl) (fun _ _ _ h => h) (Or.inl ⟨by kernel_rfl, fun w hSw => by first | (go_simp; done) | (dsimp only at hSw; obtain ⟨⟨x0, x1, x2, x3, x4, x5, x6⟩, ⟨y0, y1, y2, y3, y4, y5, y6⟩⟩ := hSw; go_simp; done) | rfl⟩) (by assumption) ?_
  simp only [Act.put, List.getElem_toArray, List.getElem_cons_succ, List.getElem_cons_zero, List.setIfInBounds_toArray, List.set_cons_succ, List.set_cons_zero]
  refine wpAnyH_take (i := 9) (v := .int .i64 q.be) rfl (by kernel_rfl) (by kernel_rfl) (by kernel_rfl) (fun _ _ _ h => h) (Or.inl ⟨by kernel_rfl, fun w hSw => by first | (go_simp; done) | (dsimp only at hSw; obtain ⟨⟨x0, x1, x2, x3, x4, x5, x6⟩, ⟨y0, y1, y2, y3, y4, y5, y6⟩⟩ := hSw; go_simp; done) | rfl⟩) (by assumption) ?_
  simp only [Act.put, List.getElem_toArray, List.getElem_cons_succ, List.getElem_cons_zero, List.setIfInBounds_toArray, List.set_cons_succ, List.set_cons_zero]
  refine wpAnyH_take (i := 10) (v := .bool true) rfl (by kernel_rfl) (by kernel_rfl) (by kernel_rfl) (fun _ _ _ h => h) (Or.inl ⟨by kernel_rfl, fun w hSw => by first | (go_simp; done) | (dsimp only at hSw; obtain ⟨⟨x0, x1, x2, x3, x4, x5, x6⟩, ⟨y0, y1, y2, y3, y4, y5, y6⟩⟩ := hSw; go_simp; done) | rfl⟩) (by assumption) ?_
  simp only [Act.put, List.getElem_toArray, List.getElem_cons_succ, List.getElem_cons_zero, List.setIfInBounds_toArray, List.set_cons_succ, List.set_cons_zero]
  refine wpAnyH_take (i := 11) (v := .bool true) rfl (by kernel_rfl) (by kernel_rfl) (by kernel_rfl) (fun _ _ _ h => h) (Or.inl ⟨by kernel_rfl, fun w hSw => by first | (go_simp; done) | (dsimp only at hSw; obtain ⟨⟨x0, x1, x2, x3, x4, x5, x6⟩, ⟨y0, y1, y2, y3, y4, y5, y6⟩⟩ := hSw; go_simp; done) | rfl⟩) (by assumption) ?_
  simp only [Act.put, List.getElem_toArray, List.getElem_cons_succ, List.getElem_cons_zero, List.setIfInBounds_toArray, List.set_cons_succ, List.set_cons_zero]
  refine wpAnyH_take (i := 12) (v := .bool true) rfl (by kernel_rfl) (by kernel_rfl) (by kernel_rfl) (fun _ _ _ h => h) (Or.inl ⟨by kernel_rfl, fun w hSw => by first | (go_simp; done) | (dsimp only at hSw; obtain ⟨⟨x0, x1, x2, x3, x4, x5, x6⟩, ⟨y0, y1, y2, y3, y4, y5, y6⟩⟩ := hSw; go_simp; done) | rfl⟩) (by assumption) ?_
  simp only [Act.put, List.getElem_toArray, List.getElem_cons_succ, List.getElem_cons_zero, List.setIfInBounds_toArray, List.set_cons_succ, List.set_cons_zero]
  refine wpAnyH_take (i := 13) (v := .pointer (some ⟨c, 4, none⟩)) rfl (by kernel_rfl) (by kernel_rfl) (by kernel_rfl) (fun _ _ _ h => h) (Or.inl ⟨by kernel_rfl, fun w hSw => by first | (go_simp; done) | (dsimp only at hSw; obtain ⟨⟨x0, x1, x2, x3, x4, x5, x6⟩, ⟨y0, y1, y2, y3, y4, y5, y6⟩⟩ := hSw; go_simp; done) | rfl⟩) (by assumption) ?_
  simp only [Act.put, List.getElem_toArray, List.getElem_cons_succ, List.getElem_cons_zero, List.setIfInBounds_toArray, List.set_cons_succ, List.set_cons_zero]
  refine wpAnyH_take (i := 14) (v := .int .i64 q.ba) rfl (by kernel_rfl) (by kernel_rfl) (by kernel_rfl) (fun _ _ _ h => h) (Or.inl ⟨by kernel_rfl, fun w hSw => by first | (go_simp; done) | (dsimp only at hSw; obtain ⟨⟨x0, x1, x2, x3, x4, x5, x6⟩, ⟨y0, y1, y2, y3, y4, y5, y6⟩⟩ := hSw; go_simp; done) | rfl⟩) (by assumption) ?_
  simp only [Act.put, List.getElem_toArray, List.getElem_cons_succ, List.getElem_cons_zero, List.setIfInBounds_toArray, List.set_cons_succ, List.set_cons_zero]
  refine wpAnyH_take (i := 15) (v := .pointer (some ⟨b, 5, none⟩)) rfl (by kernel_rfl) (by kernel_rfl) (by kernel_rfl) (fun _ _ _ h => h) (Or.inl ⟨by kernel_rfl, fun w hSw => by first | (go_simp; done) | (dsimp only at hSw; obtain ⟨⟨x0, x1, x2, x3, x4, x5, x6⟩, ⟨y0, y1, y2, y3, y4, y5, y6⟩⟩ := hSw; go_simp; done) | rfl⟩) (by assumption) ?_
  simp only [Act.put, List.getElem_toArray, List.getElem_cons_succ, List.getElem_cons_zero, List.setIfInBounds_toArray, List.set_cons_succ, List.set_cons_zero]
  refine wpAnyH_take (i := 16) (v := .int .i64 p.be) rfl (by kernel_rfl) (by kernel_rfl) (by kernel_rfl) (fun _ _ _ h => h) (Or.inl ⟨by kernel_rfl, fun w hSw => by first | (go_simp; done) | (dsimp only at hSw; obtain ⟨⟨x0, x1, x2, x3, x4, x5, x6⟩, ⟨y0, y1, y2, y3, y4, y5, y6⟩⟩ := hSw; go_simp; done) | rfl⟩) (by assumption) ?_
  simp only [Act.put, List.getElem_toArray, List.getElem_cons_succ, List.getElem_cons_zero, List.setIfInBounds_toArray, List.set_cons_succ, List.set_cons_zero]
  refine wpAnyH_take (i := 17) (v := .bool false) rfl (by kernel_rfl) (by kernel_rfl) (by kernel_rfl) (fun _ _ _ h => h) (Or.inl ⟨by kernel_rfl, fun w hSw => by first | (go_simp; done) | (dsimp only at hSw; obtain ⟨⟨x0, x1, x2, x3, x4, x5, x6⟩, ⟨y0, y1, y2, y3, y4, y5, y6⟩⟩ := hSw; go_simp; done) | rfl⟩) (by assumption) ?_
  simp only [Act.put, List.getElem_toArray, List.getElem_cons_succ, List.getElem_cons_zero, List.setIfInBounds_toArray, List.set_cons_succ, List.set_cons_zero]
  refine wpAnyH_take (i := 18) (v := .bool false) rfl (by kernel_rfl) (by kernel_rfl) (by kernel_rfl) (fun _ _ _ h => h) (Or.inl ⟨by kernel_rfl, fun w hSw => by first | (go_simp; done) | (dsimp only at hSw; obtain ⟨⟨x0, x1, x2, x3, x4, x5, x6⟩, ⟨y0, y1, y2, y3, y4, y5, y6⟩⟩ := hSw; go_simp; done) | rfl⟩) (by assumption) ?_
  simp only [Act.put, List.getElem_toArray, List.getElem_cons_succ, List.getElem_cons_zero, List.setIfInBounds_toArray, List.set_cons_succ, List.set_cons_zero]
  refine wpAnyH_take (i := 19) (v := .bool false) rfl (by kernel_rfl) (by kernel_rfl) (by kernel_rfl) (fun _ _ _ h => h) (Or.inl ⟨by kernel_rfl, fun w hSw => by first | (go_simp; done) | (dsimp only at hSw; obtain ⟨⟨x0, x1, x2, x3, x4, x5, x6⟩, ⟨y0, y1, y2, y3, y4, y5, y6⟩⟩ := hSw; go_simp; done) | rfl⟩) (by assumption) ?_
  simp only [Act.put, List.getElem_toArray, List.getElem_cons_succ, List.getElem_cons_zero, List.setIfInBounds_toArray, List.set_cons_succ, List.set_cons_zero]
  refine wpAnyH_done (by kernel_rfl) ?_ _
  go_wp2
  go_ret
  exact ⟨rfl, join_below HN.out K3⟩

set_option maxRecDepth 100000 in
set_option maxHeartbeats 4000000 in
theorem implMeet_no1 (p q : Hl) (w : World) (h0 : key p = key q) (h1 : ¬ p.ba < q.be) :
    Calls Tryz.prog 105 #[lgV p, lgV q] w fun e w' => e = .returned (.bool false) ∧ Below w.heap.size w w' := by
  have HKp : Hid (∀ w, _) := fun w => key_val p w
  have HKq : Hid (∀ w, _) := fun w => key_val q w
  have HR : ∀ w, (binOp .eql 148 (.agg #[.int .i64 p.tr, .int .i64 p.dy, .int .i64 p.co, .int .i64 p.se]) (.agg #[.int .i64 q.tr, .int .i64 q.dy, .int .i64 q.co, .int .i64 q.se])).run Tryz.prog w = .ok (.bool true) w := fun w => by rw [key_run]; simp [h0]
  have d1 : decide (p.ba < q.be) = false := decide_eq_false h1
  clear h0 h1
  have B1 : Bx ((w.alloc (.cells #[.int .i64 p.tr, .int .i64 p.dy, .int .i64 p.co, .int .i64 p.se, .int .i64 p.ba, .int .i64 p.be, .int .i64 p.od] 81)).alloc (.cells #[.int .i64 q.tr, .int .i64 q.dy, .int .i64 q.co, .int .i64 q.se, .int .i64 q.ba, .int .i64 q.be, .int .i64 q.od] 81)) w.heap.size p := Bx.of (heap_old (heap_new _ _) _)
  have B2 : Bx ((w.alloc (.cells #[.int .i64 p.tr, .int .i64 p.dy, .int .i64 p.co, .int .i64 p.se, .int .i64 p.ba, .int .i64 p.be, .int .i64 p.od] 81)).alloc (.cells #[.int .i64 q.tr, .int .i64 q.dy, .int .i64 q.co, .int .i64 q.se, .int .i64 q.ba, .int .i64 q.be, .int .i64 q.od] 81)) (w.heap.size + 1) q := by
    have h := Bx.of (p := q) (heap_new (w.alloc (.cells #[.int .i64 p.tr, .int .i64 p.dy, .int .i64 p.co, .int .i64 p.se, .int .i64 p.ba, .int .i64 p.be, .int .i64 p.od] 81)) (.cells #[.int .i64 q.tr, .int .i64 q.dy, .int .i64 q.co, .int .i64 q.se, .int .i64 q.ba, .int .i64 q.be, .int .i64 q.od] 81))
    simpa using h
  have HN : Hid (Below w.heap.size w ((w.alloc (.cells #[.int .i64 p.tr, .int .i64 p.dy, .int .i64 p.co, .int .i64 p.se, .int .i64 p.ba, .int .i64 p.be, .int .i64 p.od] 81)).alloc (.cells #[.int .i64 q.tr, .int .i64 q.dy, .int .i64 q.co, .int .i64 q.se, .int .i64 q.ba, .int .i64 q.be, .int .i64 q.od] 81))) := join_below (new_below _ _) (new_below _ _)
  have HZ : Hid (w.heap.size + 2 ≤ ((w.alloc (.cells #[.int .i64 p.tr, .int .i64 p.dy, .int .i64 p.co, .int .i64 p.se, .int .i64 p.ba, .int .i64 p.be, .int .i64 p.od] 81)).alloc (.cells #[.int .i64 q.tr, .int .i64 q.dy, .int .i64 q.co, .int .i64 q.se, .int .i64 q.ba, .int .i64 q.be, .int .i64 q.od] 81)).heap.size) := by simp [Hid]
  go_enter Tryz.func105, Tryz.ntmps105
  go_wp2
  generalize (w.alloc (.cells #[.int .i64 p.tr, .int .i64 p.dy, .int .i64 p.co, .int .i64 p.se, .int .i64 p.ba, .int .i64 p.be, .int .i64 p.od] 81)).alloc (.cells #[.int .i64 q.tr, .int .i64 q.dy, .int .i64 q.co, .int .i64 q.se, .int .i64 q.ba, .int .i64 q.be, .int .i64 q.od] 81) = W at *
  obtain ⟨b, hb0⟩ : ∃ b, w.heap.size = b := ⟨_, rfl⟩
  obtain ⟨c, hc0⟩ : ∃ c, w.heap.size + 1 = c := ⟨_, rfl⟩
  have hb : b < W.heap.size := by have := HZ.out; omega
  have hc : c < W.heap.size := by have := HZ.out; omega
  rw [hc0] at B2 ⊢
  rw [hb0] at B1 ⊢
  have HP : Hid (Bx W b p) := B1
  have HQ : Hid (Bx W c q) := B2
  clear hb0 hc0 HZ B1 B2
  refine wp_region_held_drew (S := (fun w' => Bx w' b p ∧ Bx w' c q)) (by kernel_rfl) ?_ (fun hHeld => ?_)
  · exact ⟨HP.out, HQ.out⟩
  refine wpAnyH_take (i := 0) (v := .agg #[.int .i64 p.tr, .int .i64 p.dy, .int .i64 p.co, .int .i64 p.se, .int .i64 p.ba, .int .i64 p.be, .int .i64 p.od]) rfl (by kernel_rfl) (by kernel_rfl) (by kernel_rfl) (fun _ _ _ h => h) (Or.inl ⟨by kernel_rfl, fun w hSw => by first | (go_simp; done) | (dsimp only at hSw; obtain ⟨⟨x0, x1, x2, x3, x4, x5, x6⟩, ⟨y0, y1, y2, y3, y4, y5, y6⟩⟩ := hSw; go_simp; done) | rfl⟩) (by assumption) ?_
  simp only [Act.put, List.getElem_toArray, List.getElem_cons_succ, List.getElem_cons_zero, List.setIfInBounds_toArray, List.set_cons_succ, List.set_cons_zero]
  refine wpAnyH_take (i := 2) (v := .agg #[.int .i64 q.tr, .int .i64 q.dy, .int .i64 q.co, .int .i64 q.se, .int .i64 q.ba, .int .i64 q.be, .int .i64 q.od]) rfl (by kernel_rfl) (by kernel_rfl) (by kernel_rfl) (fun _ _ _ h => h) (Or.inl ⟨by kernel_rfl, fun w hSw => by first | (go_simp; done) | (dsimp only at hSw; obtain ⟨⟨x0, x1, x2, x3, x4, x5, x6⟩, ⟨y0, y1, y2, y3, y4, y5, y6⟩⟩ := hSw; go_simp; done) | rfl⟩) (by assumption) ?_
  simp only [Act.put, List.getElem_toArray, List.getElem_cons_succ, List.getElem_cons_zero, List.setIfInBounds_toArray, List.set_cons_succ, List.set_cons_zero]
  refine wpAnyH_ready (rs := [1]) (by kernel_rfl) (by simp) ?_
  refine AllReadyH.cons rfl (fun K hK => ?_) AllReadyH.nil
  go_simp
  go_wp2_with (go_at_call 100; (with_reducible refine (HKp.out _).mono ?_); rintro e w3 ⟨rfl, L3⟩; have K3 : Below W.heap.size W w3 := (by first | exact L3 | exact ((Below.refl _ _).drew).trans L3 | exact K3.trans (L3.mono K3.size)))
  refine hK.out _ _ ?_ (fun hHeld2 => ?_)
  · exact ⟨HP.out.on K3 hb, HQ.out.on K3 hc⟩
  clear hK K hHeld
  have hHeld := hHeld2
  clear hHeld2
  refine wpAnyH_ready (rs := [3]) (by kernel_rfl) (by simp) ?_
  refine AllReadyH.cons rfl (fun K hK => ?_) AllReadyH.nil
  go_simp
  go_wp2_with (go_at_call 100; (with_reducible refine (HKq.out _).mono ?_); rintro e w3 ⟨rfl, L3⟩; have K3 : Below W.heap.size W w3 := (by first | exact L3 | exact ((Below.refl _ _).drew).trans L3 | exact K3.trans (L3.mono K3.size)))
  refine hK.out _ _ ?_ (fun hHeld2 => ?_)
  · exact ⟨HP.out.on K3 hb, HQ.out.on K3 hc⟩
  clear hK K hHeld
  have hHeld := hHeld2
  clear hHeld2
  refine wpAnyH_take (i := 4) (v := .bool true) rfl (by kernel_rfl) (by kernel_rfl) (by kernel_rfl) (fun _ _ _ h => h) (Or.inl ⟨by kernel_rfl, fun w hSw => by first | (go_simp; done) | (dsimp only at hSw; obtain ⟨⟨x0, x1, x2, x3, x4, x5, x6⟩, ⟨y0, y1, y2, y3, y4, y5, y6⟩⟩ := hSw; go_simp; done) | rfl⟩) (by assumption) ?_
  simp only [Act.put, List.getElem_toArray, List.getElem_cons_succ, List.getElem_cons_zero, List.setIfInBounds_toArray, List.set_cons_succ, List.set_cons_zero]
  refine wpAnyH_take (i := 5) (v := .bool true) rfl (by kernel_rfl) (by kernel_rfl) (by kernel_rfl) (fun _ _ _ h => h) (Or.inl ⟨by kernel_rfl, fun w hSw => by first | (go_simp; done) | (dsimp only at hSw; obtain ⟨⟨x0, x1, x2, x3, x4, x5, x6⟩, ⟨y0, y1, y2, y3, y4, y5, y6⟩⟩ := hSw; go_simp; done) | rfl⟩) (by assumption) ?_
  simp only [Act.put, List.getElem_toArray, List.getElem_cons_succ, List.getElem_cons_zero, List.setIfInBounds_toArray, List.set_cons_succ, List.set_cons_zero]
  refine wpAnyH_take (i := 6) (v := .pointer (some ⟨b, 4, none⟩)) rfl (by kernel_rfl) (by kernel_rfl) (by kernel_rfl) (fun _ _ _ h => h) (Or.inl ⟨by kernel_rfl, fun w hSw => by first | (go_simp; done) | (dsimp only at hSw; obtain ⟨⟨x0, x1, x2, x3, x4, x5, x6⟩, ⟨y0, y1, y2, y3, y4, y5, y6⟩⟩ := hSw; go_simp; done) | rfl⟩) (by assumption) ?_
  simp only [Act.put, List.getElem_toArray, List.getElem_cons_succ, List.getElem_cons_zero, List.setIfInBounds_toArray, List.set_cons_succ, List.set_cons_zero]
  refine wpAnyH_take (i := 7) (v := .int .i64 p.ba) rfl (by kernel_rfl) (by kernel_rfl) (by kernel_rfl) (fun _ _ _ h => h) (Or.inl ⟨by kernel_rfl, fun w hSw => by first | (go_simp; done) | (dsimp only at hSw; obtain ⟨⟨x0, x1, x2, x3, x4, x5, x6⟩, ⟨y0, y1, y2, y3, y4, y5, y6⟩⟩ := hSw; go_simp; done) | rfl⟩) (by assumption) ?_
  simp only [Act.put, List.getElem_toArray, List.getElem_cons_succ, List.getElem_cons_zero, List.setIfInBounds_toArray, List.set_cons_succ, List.set_cons_zero]
  refine wpAnyH_take (i := 8) (v := .pointer (some ⟨c, 5, none⟩)) rfl (by kernel_rfl) (by kernel_rfl) (by kernel_rfl) (fun _ _ _ h => h) (Or.inl ⟨by kernel_rfl, fun w hSw => by first | (go_simp; done) | (dsimp only at hSw; obtain ⟨⟨x0, x1, x2, x3, x4, x5, x6⟩, ⟨y0, y1, y2, y3, y4, y5, y6⟩⟩ := hSw; go_simp; done) | rfl⟩) (by assumption) ?_
  simp only [Act.put, List.getElem_toArray, List.getElem_cons_succ, List.getElem_cons_zero, List.setIfInBounds_toArray, List.set_cons_succ, List.set_cons_zero]
  refine wpAnyH_take (i := 9) (v := .int .i64 q.be) rfl (by kernel_rfl) (by kernel_rfl) (by kernel_rfl) (fun _ _ _ h => h) (Or.inl ⟨by kernel_rfl, fun w hSw => by first | (go_simp; done) | (dsimp only at hSw; obtain ⟨⟨x0, x1, x2, x3, x4, x5, x6⟩, ⟨y0, y1, y2, y3, y4, y5, y6⟩⟩ := hSw; go_simp; done) | rfl⟩) (by assumption) ?_
  simp only [Act.put, List.getElem_toArray, List.getElem_cons_succ, List.getElem_cons_zero, List.setIfInBounds_toArray, List.set_cons_succ, List.set_cons_zero]
  refine wpAnyH_take (i := 10) (v := .bool false) rfl (by kernel_rfl) (by kernel_rfl) (by kernel_rfl) (fun _ _ _ h => h) (Or.inl ⟨by kernel_rfl, fun w hSw => by first | (go_simp; done) | (dsimp only at hSw; obtain ⟨⟨x0, x1, x2, x3, x4, x5, x6⟩, ⟨y0, y1, y2, y3, y4, y5, y6⟩⟩ := hSw; go_simp; done) | rfl⟩) (by assumption) ?_
  simp only [Act.put, List.getElem_toArray, List.getElem_cons_succ, List.getElem_cons_zero, List.setIfInBounds_toArray, List.set_cons_succ, List.set_cons_zero]
  refine wpAnyH_take (i := 11) (v := .bool false) rfl (by kernel_rfl) (by kernel_rfl) (by kernel_rfl) (fun _ _ _ h => h) (Or.inl ⟨by kernel_rfl, fun w hSw => by first | (go_simp; done) | (dsimp only at hSw; obtain ⟨⟨x0, x1, x2, x3, x4, x5, x6⟩, ⟨y0, y1, y2, y3, y4, y5, y6⟩⟩ := hSw; go_simp; done) | rfl⟩) (by assumption) ?_
  simp only [Act.put, List.getElem_toArray, List.getElem_cons_succ, List.getElem_cons_zero, List.setIfInBounds_toArray, List.set_cons_succ, List.set_cons_zero]
  refine wpAnyH_take (i := 12) (v := .bool false) rfl (by kernel_rfl) (by kernel_rfl) (by kernel_rfl) (fun _ _ _ h => h) (Or.inl ⟨by kernel_rfl, fun w hSw => by first | (go_simp; done) | (dsimp only at hSw; obtain ⟨⟨x0, x1, x2, x3, x4, x5, x6⟩, ⟨y0, y1, y2, y3, y4, y5, y6⟩⟩ := hSw; go_simp; done) | rfl⟩) (by assumption) ?_
  simp only [Act.put, List.getElem_toArray, List.getElem_cons_succ, List.getElem_cons_zero, List.setIfInBounds_toArray, List.set_cons_succ, List.set_cons_zero]
  refine wpAnyH_take (i := 13) (v := undef) rfl (by kernel_rfl) (by kernel_rfl) (by kernel_rfl) (fun _ _ _ h => h) (Or.inr ⟨by kernel_rfl, rfl⟩) (by assumption) ?_
  simp only [Act.put, List.getElem_toArray, List.getElem_cons_succ, List.getElem_cons_zero, List.setIfInBounds_toArray, List.set_cons_succ, List.set_cons_zero]
  refine wpAnyH_take (i := 14) (v := undef) rfl (by kernel_rfl) (by kernel_rfl) (by kernel_rfl) (fun _ _ _ h => h) (Or.inr ⟨by kernel_rfl, rfl⟩) (by assumption) ?_
  simp only [Act.put, List.getElem_toArray, List.getElem_cons_succ, List.getElem_cons_zero, List.setIfInBounds_toArray, List.set_cons_succ, List.set_cons_zero]
  refine wpAnyH_take (i := 15) (v := undef) rfl (by kernel_rfl) (by kernel_rfl) (by kernel_rfl) (fun _ _ _ h => h) (Or.inr ⟨by kernel_rfl, rfl⟩) (by assumption) ?_
  simp only [Act.put, List.getElem_toArray, List.getElem_cons_succ, List.getElem_cons_zero, List.setIfInBounds_toArray, List.set_cons_succ, List.set_cons_zero]
  refine wpAnyH_take (i := 16) (v := undef) rfl (by kernel_rfl) (by kernel_rfl) (by kernel_rfl) (fun _ _ _ h => h) (Or.inr ⟨by kernel_rfl, rfl⟩) (by assumption) ?_
  simp only [Act.put, List.getElem_toArray, List.getElem_cons_succ, List.getElem_cons_zero, List.setIfInBounds_toArray, List.set_cons_succ, List.set_cons_zero]
  refine wpAnyH_take (i := 17) (v := undef) rfl (by kernel_rfl) (by kernel_rfl) (by kernel_rfl) (fun _ _ _ h => h) (Or.inr ⟨by kernel_rfl, rfl⟩) (by assumption) ?_
  simp only [Act.put, List.getElem_toArray, List.getElem_cons_succ, List.getElem_cons_zero, List.setIfInBounds_toArray, List.set_cons_succ, List.set_cons_zero]
  refine wpAnyH_take (i := 18) (v := .bool false) rfl (by kernel_rfl) (by kernel_rfl) (by kernel_rfl) (fun _ _ _ h => h) (Or.inl ⟨by kernel_rfl, fun w hSw => by first | (go_simp; done) | (dsimp only at hSw; obtain ⟨⟨x0, x1, x2, x3, x4, x5, x6⟩, ⟨y0, y1, y2, y3, y4, y5, y6⟩⟩ := hSw; go_simp; done) | rfl⟩) (by assumption) ?_
  simp only [Act.put, List.getElem_toArray, List.getElem_cons_succ, List.getElem_cons_zero, List.setIfInBounds_toArray, List.set_cons_succ, List.set_cons_zero]
  refine wpAnyH_take (i := 19) (v := .bool false) rfl (by kernel_rfl) (by kernel_rfl) (by kernel_rfl) (fun _ _ _ h => h) (Or.inl ⟨by kernel_rfl, fun w hSw => by first | (go_simp; done) | (dsimp only at hSw; obtain ⟨⟨x0, x1, x2, x3, x4, x5, x6⟩, ⟨y0, y1, y2, y3, y4, y5, y6⟩⟩ := hSw; go_simp; done) | rfl⟩) (by assumption) ?_
  simp only [Act.put, List.getElem_toArray, List.getElem_cons_succ, List.getElem_cons_zero, List.setIfInBounds_toArray, List.set_cons_succ, List.set_cons_zero]
  refine wpAnyH_done (by kernel_rfl) ?_ _
  go_wp2
  go_ret
  exact ⟨rfl, join_below HN.out K3⟩

set_option maxRecDepth 100000 in
set_option maxHeartbeats 4000000 in
theorem implMeet_no0 (p q : Hl) (w : World) (h0 : ¬ key p = key q) :
    Calls Tryz.prog 105 #[lgV p, lgV q] w fun e w' => e = .returned (.bool false) ∧ Below w.heap.size w w' := by
  have HKp : Hid (∀ w, _) := fun w => key_val p w
  have HKq : Hid (∀ w, _) := fun w => key_val q w
  have HR : ∀ w, (binOp .eql 148 (.agg #[.int .i64 p.tr, .int .i64 p.dy, .int .i64 p.co, .int .i64 p.se]) (.agg #[.int .i64 q.tr, .int .i64 q.dy, .int .i64 q.co, .int .i64 q.se])).run Tryz.prog w = .ok (.bool false) w := fun w => by rw [key_run]; simp [h0]
  clear h0
  have B1 : Bx ((w.alloc (.cells #[.int .i64 p.tr, .int .i64 p.dy, .int .i64 p.co, .int .i64 p.se, .int .i64 p.ba, .int .i64 p.be, .int .i64 p.od] 81)).alloc (.cells #[.int .i64 q.tr, .int .i64 q.dy, .int .i64 q.co, .int .i64 q.se, .int .i64 q.ba, .int .i64 q.be, .int .i64 q.od] 81)) w.heap.size p := Bx.of (heap_old (heap_new _ _) _)
  have B2 : Bx ((w.alloc (.cells #[.int .i64 p.tr, .int .i64 p.dy, .int .i64 p.co, .int .i64 p.se, .int .i64 p.ba, .int .i64 p.be, .int .i64 p.od] 81)).alloc (.cells #[.int .i64 q.tr, .int .i64 q.dy, .int .i64 q.co, .int .i64 q.se, .int .i64 q.ba, .int .i64 q.be, .int .i64 q.od] 81)) (w.heap.size + 1) q := by
    have h := Bx.of (p := q) (heap_new (w.alloc (.cells #[.int .i64 p.tr, .int .i64 p.dy, .int .i64 p.co, .int .i64 p.se, .int .i64 p.ba, .int .i64 p.be, .int .i64 p.od] 81)) (.cells #[.int .i64 q.tr, .int .i64 q.dy, .int .i64 q.co, .int .i64 q.se, .int .i64 q.ba, .int .i64 q.be, .int .i64 q.od] 81))
    simpa using h
  have HN : Hid (Below w.heap.size w ((w.alloc (.cells #[.int .i64 p.tr, .int .i64 p.dy, .int .i64 p.co, .int .i64 p.se, .int .i64 p.ba, .int .i64 p.be, .int .i64 p.od] 81)).alloc (.cells #[.int .i64 q.tr, .int .i64 q.dy, .int .i64 q.co, .int .i64 q.se, .int .i64 q.ba, .int .i64 q.be, .int .i64 q.od] 81))) := join_below (new_below _ _) (new_below _ _)
  have HZ : Hid (w.heap.size + 2 ≤ ((w.alloc (.cells #[.int .i64 p.tr, .int .i64 p.dy, .int .i64 p.co, .int .i64 p.se, .int .i64 p.ba, .int .i64 p.be, .int .i64 p.od] 81)).alloc (.cells #[.int .i64 q.tr, .int .i64 q.dy, .int .i64 q.co, .int .i64 q.se, .int .i64 q.ba, .int .i64 q.be, .int .i64 q.od] 81)).heap.size) := by simp [Hid]
  go_enter Tryz.func105, Tryz.ntmps105
  go_wp2
  generalize (w.alloc (.cells #[.int .i64 p.tr, .int .i64 p.dy, .int .i64 p.co, .int .i64 p.se, .int .i64 p.ba, .int .i64 p.be, .int .i64 p.od] 81)).alloc (.cells #[.int .i64 q.tr, .int .i64 q.dy, .int .i64 q.co, .int .i64 q.se, .int .i64 q.ba, .int .i64 q.be, .int .i64 q.od] 81) = W at *
  obtain ⟨b, hb0⟩ : ∃ b, w.heap.size = b := ⟨_, rfl⟩
  obtain ⟨c, hc0⟩ : ∃ c, w.heap.size + 1 = c := ⟨_, rfl⟩
  have hb : b < W.heap.size := by have := HZ.out; omega
  have hc : c < W.heap.size := by have := HZ.out; omega
  rw [hc0] at B2 ⊢
  rw [hb0] at B1 ⊢
  have HP : Hid (Bx W b p) := B1
  have HQ : Hid (Bx W c q) := B2
  clear hb0 hc0 HZ B1 B2
  refine wp_region_held_drew (S := (fun w' => Bx w' b p ∧ Bx w' c q)) (by kernel_rfl) ?_ (fun hHeld => ?_)
  · exact ⟨HP.out, HQ.out⟩
  refine wpAnyH_take (i := 0) (v := .agg #[.int .i64 p.tr, .int .i64 p.dy, .int .i64 p.co, .int .i64 p.se, .int .i64 p.ba, .int .i64 p.be, .int .i64 p.od]) rfl (by kernel_rfl) (by kernel_rfl) (by kernel_rfl) (fun _ _ _ h => h) (Or.inl ⟨by kernel_rfl, fun w hSw => by first | (go_simp; done) | (dsimp only at hSw; obtain ⟨⟨x0, x1, x2, x3, x4, x5, x6⟩, ⟨y0, y1, y2, y3, y4, y5, y6⟩⟩ := hSw; go_simp; done) | rfl⟩) (by assumption) ?_
  simp only [Act.put, List.getElem_toArray, List.getElem_cons_succ, List.getElem_cons_zero, List.setIfInBounds_toArray, List.set_cons_succ, List.set_cons_zero]
  refine wpAnyH_take (i := 2) (v := .agg #[.int .i64 q.tr, .int .i64 q.dy, .int .i64 q.co, .int .i64 q.se, .int .i64 q.ba, .int .i64 q.be, .int .i64 q.od]) rfl (by kernel_rfl) (by kernel_rfl) (by kernel_rfl) (fun _ _ _ h => h) (Or.inl ⟨by kernel_rfl, fun w hSw => by first | (go_simp; done) | (dsimp only at hSw; obtain ⟨⟨x0, x1, x2, x3, x4, x5, x6⟩, ⟨y0, y1, y2, y3, y4, y5, y6⟩⟩ := hSw; go_simp; done) | rfl⟩) (by assumption) ?_
  simp only [Act.put, List.getElem_toArray, List.getElem_cons_succ, List.getElem_cons_zero, List.setIfInBounds_toArray, List.set_cons_succ, List.set_cons_zero]
  refine wpAnyH_ready (rs := [1]) (by kernel_rfl) (by simp) ?_
  refine AllReadyH.cons rfl (fun K hK => ?_) AllReadyH.nil
  go_simp
  go_wp2_with (go_at_call 100; (with_reducible refine (HKp.out _).mono ?_); rintro e w3 ⟨rfl, L3⟩; have K3 : Below W.heap.size W w3 := (by first | exact L3 | exact ((Below.refl _ _).drew).trans L3 | exact K3.trans (L3.mono K3.size)))
  refine hK.out _ _ ?_ (fun hHeld2 => ?_)
  · exact ⟨HP.out.on K3 hb, HQ.out.on K3 hc⟩
  clear hK K hHeld
  have hHeld := hHeld2
  clear hHeld2
  refine wpAnyH_ready (rs := [3]) (by kernel_rfl) (by simp) ?_
  refine AllReadyH.cons rfl (fun K hK => ?_) AllReadyH.nil
  go_simp
  go_wp2_with (go_at_call 100; (with_reducible refine (HKq.out _).mono ?_); rintro e w3 ⟨rfl, L3⟩; have K3 : Below W.heap.size W w3 := (by first | exact L3 | exact ((Below.refl _ _).drew).trans L3 | exact K3.trans (L3.mono K3.size)))
  refine hK.out _ _ ?_ (fun hHeld2 => ?_)
  · exact ⟨HP.out.on K3 hb, HQ.out.on K3 hc⟩
  clear hK K hHeld
  have hHeld := hHeld2
  clear hHeld2
  refine wpAnyH_take (i := 4) (v := .bool false) rfl (by kernel_rfl) (by kernel_rfl) (by kernel_rfl) (fun _ _ _ h => h) (Or.inl ⟨by kernel_rfl, fun w hSw => by first | (go_simp; done) | (dsimp only at hSw; obtain ⟨⟨x0, x1, x2, x3, x4, x5, x6⟩, ⟨y0, y1, y2, y3, y4, y5, y6⟩⟩ := hSw; go_simp; done) | rfl⟩) (by assumption) ?_
  simp only [Act.put, List.getElem_toArray, List.getElem_cons_succ, List.getElem_cons_zero, List.setIfInBounds_toArray, List.set_cons_succ, List.set_cons_zero]
  refine wpAnyH_take (i := 5) (v := .bool false) rfl (by kernel_rfl) (by kernel_rfl) (by kernel_rfl) (fun _ _ _ h => h) (Or.inl ⟨by kernel_rfl, fun w hSw => by first | (go_simp; done) | (dsimp only at hSw; obtain ⟨⟨x0, x1, x2, x3, x4, x5, x6⟩, ⟨y0, y1, y2, y3, y4, y5, y6⟩⟩ := hSw; go_simp; done) | rfl⟩) (by assumption) ?_
  simp only [Act.put, List.getElem_toArray, List.getElem_cons_succ, List.getElem_cons_zero, List.setIfInBounds_toArray, List.set_cons_succ, List.set_cons_zero]
  refine wpAnyH_take (i := 6) (v := undef) rfl (by kernel_rfl) (by kernel_rfl) (by kernel_rfl) (fun _ _ _ h => h) (Or.inr ⟨by kernel_rfl, rfl⟩) (by assumption) ?_
  simp only [Act.put, List.getElem_toArray, List.getElem_cons_succ, List.getElem_cons_zero, List.setIfInBounds_toArray, List.set_cons_succ, List.set_cons_zero]
  refine wpAnyH_take (i := 7) (v := undef) rfl (by kernel_rfl) (by kernel_rfl) (by kernel_rfl) (fun _ _ _ h => h) (Or.inr ⟨by kernel_rfl, rfl⟩) (by assumption) ?_
  simp only [Act.put, List.getElem_toArray, List.getElem_cons_succ, List.getElem_cons_zero, List.setIfInBounds_toArray, List.set_cons_succ, List.set_cons_zero]
  refine wpAnyH_take (i := 8) (v := undef) rfl (by kernel_rfl) (by kernel_rfl) (by kernel_rfl) (fun _ _ _ h => h) (Or.inr ⟨by kernel_rfl, rfl⟩) (by assumption) ?_
  simp only [Act.put, List.getElem_toArray, List.getElem_cons_succ, List.getElem_cons_zero, List.setIfInBounds_toArray, List.set_cons_succ, List.set_cons_zero]
  refine wpAnyH_take (i := 9) (v := undef) rfl (by kernel_rfl) (by kernel_rfl) (by kernel_rfl) (fun _ _ _ h => h) (Or.inr ⟨by kernel_rfl, rfl⟩) (by assumption) ?_
  simp only [Act.put, List.getElem_toArray, List.getElem_cons_succ, List.getElem_cons_zero, List.setIfInBounds_toArray, List.set_cons_succ, List.set_cons_zero]
  refine wpAnyH_take (i := 10) (v := undef) rfl (by kernel_rfl) (by kernel_rfl) (by kernel_rfl) (fun _ _ _ h => h) (Or.inr ⟨by kernel_rfl, rfl⟩) (by assumption) ?_
  simp only [Act.put, List.getElem_toArray, List.getElem_cons_succ, List.getElem_cons_zero, List.setIfInBounds_toArray, List.set_cons_succ, List.set_cons_zero]
  refine wpAnyH_take (i := 11) (v := .bool false) rfl (by kernel_rfl) (by kernel_rfl) (by kernel_rfl) (fun _ _ _ h => h) (Or.inl ⟨by kernel_rfl, fun w hSw => by first | (go_simp; done) | (dsimp only at hSw; obtain ⟨⟨x0, x1, x2, x3, x4, x5, x6⟩, ⟨y0, y1, y2, y3, y4, y5, y6⟩⟩ := hSw; go_simp; done) | rfl⟩) (by assumption) ?_
  simp only [Act.put, List.getElem_toArray, List.getElem_cons_succ, List.getElem_cons_zero, List.setIfInBounds_toArray, List.set_cons_succ, List.set_cons_zero]
  refine wpAnyH_take (i := 12) (v := .bool false) rfl (by kernel_rfl) (by kernel_rfl) (by kernel_rfl) (fun _ _ _ h => h) (Or.inl ⟨by kernel_rfl, fun w hSw => by first | (go_simp; done) | (dsimp only at hSw; obtain ⟨⟨x0, x1, x2, x3, x4, x5, x6⟩, ⟨y0, y1, y2, y3, y4, y5, y6⟩⟩ := hSw; go_simp; done) | rfl⟩) (by assumption) ?_
  simp only [Act.put, List.getElem_toArray, List.getElem_cons_succ, List.getElem_cons_zero, List.setIfInBounds_toArray, List.set_cons_succ, List.set_cons_zero]
  refine wpAnyH_take (i := 13) (v := undef) rfl (by kernel_rfl) (by kernel_rfl) (by kernel_rfl) (fun _ _ _ h => h) (Or.inr ⟨by kernel_rfl, rfl⟩) (by assumption) ?_
  simp only [Act.put, List.getElem_toArray, List.getElem_cons_succ, List.getElem_cons_zero, List.setIfInBounds_toArray, List.set_cons_succ, List.set_cons_zero]
  refine wpAnyH_take (i := 14) (v := undef) rfl (by kernel_rfl) (by kernel_rfl) (by kernel_rfl) (fun _ _ _ h => h) (Or.inr ⟨by kernel_rfl, rfl⟩) (by assumption) ?_
  simp only [Act.put, List.getElem_toArray, List.getElem_cons_succ, List.getElem_cons_zero, List.setIfInBounds_toArray, List.set_cons_succ, List.set_cons_zero]
  refine wpAnyH_take (i := 15) (v := undef) rfl (by kernel_rfl) (by kernel_rfl) (by kernel_rfl) (fun _ _ _ h => h) (Or.inr ⟨by kernel_rfl, rfl⟩) (by assumption) ?_
  simp only [Act.put, List.getElem_toArray, List.getElem_cons_succ, List.getElem_cons_zero, List.setIfInBounds_toArray, List.set_cons_succ, List.set_cons_zero]
  refine wpAnyH_take (i := 16) (v := undef) rfl (by kernel_rfl) (by kernel_rfl) (by kernel_rfl) (fun _ _ _ h => h) (Or.inr ⟨by kernel_rfl, rfl⟩) (by assumption) ?_
  simp only [Act.put, List.getElem_toArray, List.getElem_cons_succ, List.getElem_cons_zero, List.setIfInBounds_toArray, List.set_cons_succ, List.set_cons_zero]
  refine wpAnyH_take (i := 17) (v := undef) rfl (by kernel_rfl) (by kernel_rfl) (by kernel_rfl) (fun _ _ _ h => h) (Or.inr ⟨by kernel_rfl, rfl⟩) (by assumption) ?_
  simp only [Act.put, List.getElem_toArray, List.getElem_cons_succ, List.getElem_cons_zero, List.setIfInBounds_toArray, List.set_cons_succ, List.set_cons_zero]
  refine wpAnyH_take (i := 18) (v := .bool false) rfl (by kernel_rfl) (by kernel_rfl) (by kernel_rfl) (fun _ _ _ h => h) (Or.inl ⟨by kernel_rfl, fun w hSw => by first | (go_simp; done) | (dsimp only at hSw; obtain ⟨⟨x0, x1, x2, x3, x4, x5, x6⟩, ⟨y0, y1, y2, y3, y4, y5, y6⟩⟩ := hSw; go_simp; done) | rfl⟩) (by assumption) ?_
  simp only [Act.put, List.getElem_toArray, List.getElem_cons_succ, List.getElem_cons_zero, List.setIfInBounds_toArray, List.set_cons_succ, List.set_cons_zero]
  refine wpAnyH_take (i := 19) (v := .bool false) rfl (by kernel_rfl) (by kernel_rfl) (by kernel_rfl) (fun _ _ _ h => h) (Or.inl ⟨by kernel_rfl, fun w hSw => by first | (go_simp; done) | (dsimp only at hSw; obtain ⟨⟨x0, x1, x2, x3, x4, x5, x6⟩, ⟨y0, y1, y2, y3, y4, y5, y6⟩⟩ := hSw; go_simp; done) | rfl⟩) (by assumption) ?_
  simp only [Act.put, List.getElem_toArray, List.getElem_cons_succ, List.getElem_cons_zero, List.setIfInBounds_toArray, List.set_cons_succ, List.set_cons_zero]
  refine wpAnyH_done (by kernel_rfl) ?_ _
  go_wp2
  go_ret
  exact ⟨rfl, join_below HN.out K3⟩

theorem implMeet_val (p q : Hl) (w : World) :
    Calls Tryz.prog 105 #[lgV p, lgV q] w fun e w' => e = .returned (.bool (meetB p q)) ∧ Below w.heap.size w w' := by
  unfold meetB
  by_cases h0 : key p = key q
  · by_cases h1 : p.ba < q.be
    · by_cases h2 : q.ba < p.be
      · simp only [h0, h1, h2, decide_true, Bool.and_self]
        exact implMeet_yes p q w h0 h1 h2
      · simp only [h0, h1, h2, decide_true, decide_false, Bool.and_false]
        exact implMeet_no2 p q w h0 h1 h2
    · simp only [h0, h1, decide_true, decide_false, Bool.and_false, Bool.false_and]
      exact implMeet_no1 p q w h0 h1
  · simp only [h0, decide_false, Bool.false_and]
    exact implMeet_no0 p q w h0

end Se
end Go.Proofs.YtehmlnojjfeheaaGreat

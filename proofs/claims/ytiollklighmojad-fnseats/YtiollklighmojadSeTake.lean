/- slices.Grow, Concat and Clone over holds; Take of the program and of the model. -/
import Derived.Test.YtiollklighmojadSeFree
import Derived.Test.YtiollklighmojadSeRel
import Derived.Lib.AppendZeros
import Derived.Lib.SliceRun
import Derived.Deep.Cut
namespace Go.Proofs.Ytiollklighmojad
namespace Se
open Go.ChangeShapes Go.WideShapes Go.ChangeAt Go.RowKit
open Pk (new_below join_below cell_at heap_new frozen_at lt_of kept heap_old Drawn info_of own_form own_below Room)
set_option linter.unusedSimpArgs false
set_option linter.unusedVariables false

theorem own_wider {w : World} {base base' e size : Nat} {v : Value} {n : Nat} {xs : List Value} (h : w.ownsRow base e size v n xs) (hb : base' ≤ base) : w.ownsRow base' e size v n xs := by
  obtain ⟨h1, h2⟩ := h
  refine ⟨h1, ?_⟩
  rcases h2 with h2 | ⟨g, cap, cur, hv, hg, hh, hr⟩
  · exact Or.inl h2
  · exact Or.inr ⟨g, cap, cur, hv, Nat.le_trans hb hg, hh, hr⟩

theorem slice_at {w : World} {b o : Nat} {l : List Hl} (h : Holds w (some ⟨b, o, none⟩) l) : ∀ j u, (hcells l)[j]? = some u → w.cell? (Addr.add ⟨b, o, none⟩ j) = some u := by
  intro j u hu
  have hj := (List.getElem?_eq_some_iff.1 hu).1
  rw [hcells_length] at hj
  have hk : j / 7 < l.length := by omega
  have hc : j % 7 < 7 := by omega
  have e : j = j / 7 * 7 + j % 7 := by omega
  have h1 := hcells_get l (j / 7) (j % 7) hk hc
  rw [← e, hu] at h1
  obtain ⟨c0, c1, c2, c3, c4, c5, c6⟩ := h.put (j / 7) hk
  rw [add_plain, e, ← Nat.add_assoc]
  generalize j % 7 = r at *
  match r, hc with
  | 0, _ => rw [Nat.add_zero, c0]; exact h1.symm
  | 1, _ => rw [c1]; exact h1.symm
  | 2, _ => rw [c2]; exact h1.symm
  | 3, _ => rw [c3]; exact h1.symm
  | 4, _ => rw [c4]; exact h1.symm
  | 5, _ => rw [c5]; exact h1.symm
  | 6, _ => rw [c6]; exact h1.symm

set_option maxRecDepth 100000 in
set_option maxHeartbeats 2000000 in
theorem grow_val (n : Nat) (w : World) (h1 : 1 ≤ n) (h2 : n ≤ 1048577) :
    Calls Try.prog 139 #[.slice none 0 0, .int .i64 n] w fun e w' => ∃ v, e = .returned v ∧ w'.ownsRow w.heap.size 77 7 v 0 [] ∧ Below w.heap.size w w' := by
  obtain ⟨i0, hi, hz0, hz1, hz2⟩ := info_of info_hold
  have d1 : decide ((n : Int) < 0) = false := decide_eq_false (by omega)
  have d2 : decide (0 < (n : Int)) = true := decide_eq_true (by omega)
  have hrz : ∀ ty, (Builtin.append_ #[70, 3] ty #[.slice none 0 0, .int .i64 n]).run Try.prog w = .ok (.slice (some ⟨w.heap.size, 0, none⟩) n (grownCap w n 0 77)) (w.drew.alloc (.cells (Builtin.zeroCells (lgV ⟨0, 0, 0, 0, 0, 0, 0⟩).cells n ++ Builtin.zeroCells (lgV ⟨0, 0, 0, 0, 0, 0, 0⟩).cells (grownCap w n 0 77 - n)) 77)) := fun ty => Lib.run_append_nil_zeros w 70 3 ty 77 i0 (lgV ⟨0, 0, 0, 0, 0, 0, 0⟩) .i64 .i64 Try.underlying70 Try.underlying3 hi hz0 n h1 (by rw [hz1]; omega) (by omega) (by rw [hz2]; omega)
  have hG1 : n ≤ grownCap w n 0 77 := grownCap_ge w _ _ _
  have hG2 : grownCap w n 0 77 ≤ maxLen := grownCap_le_maxLen w n 0 77 (by unfold maxLen; omega)
  have OW : (w.drew.alloc (.cells (Builtin.zeroCells (lgV ⟨0, 0, 0, 0, 0, 0, 0⟩).cells n ++ Builtin.zeroCells (lgV ⟨0, 0, 0, 0, 0, 0, 0⟩).cells (grownCap w n 0 77 - n)) 77)).ownsRow w.heap.size 77 7 (.slice (some ⟨w.heap.size, 0, none⟩) 0 (grownCap w n 0 77)) 0 [] := by
    refine ⟨rfl, Or.inr ⟨w.heap.size, _, _, rfl, Nat.le_refl _, heap_new w.drew _, Nat.zero_le _, hG2, ?_, by simp⟩⟩
    rw [Array.size_append, size_zeroCells, size_zeroCells]
    simp [Value.cells]
    omega
  have LW : Below w.heap.size w (w.drew.alloc (.cells (Builtin.zeroCells (lgV ⟨0, 0, 0, 0, 0, 0, 0⟩).cells n ++ Builtin.zeroCells (lgV ⟨0, 0, 0, 0, 0, 0, 0⟩).cells (grownCap w n 0 77 - n)) 77)) := ((Below.refl _ _).drew).alloc (Nat.le_refl _) _
  have hG63 : grownCap w n 0 77 ≤ 9223372036854775807 := by unfold maxLen at hG2; omega
  generalize w.drew.alloc (.cells (Builtin.zeroCells (lgV ⟨0, 0, 0, 0, 0, 0, 0⟩).cells n ++ Builtin.zeroCells (lgV ⟨0, 0, 0, 0, 0, 0, 0⟩).cells (grownCap w n 0 77 - n)) 77) = W at *
  generalize grownCap w n 0 77 = G at *
  clear hG2
  go_enter Try.func139, Try.ntmps139
  go_wp2_with (at_builtin; refine Lib.wpList_append_run _ rfl _ _ _ _ rfl _ _ rfl rfl _ _ (hrz _) ?_)
  go_ret
  exact ⟨_, rfl, OW, LW⟩

set_option maxRecDepth 100000 in
set_option maxHeartbeats 4000000 in
theorem concat_val (c b o d : Nat) (l : List Hl) (cap : Nat) (p : Hl) (w : World) (hl : l.length ≤ 1048576) (I : Holds w (some ⟨b, o, none⟩) l) (hc : w.heap[c]? = some (.cells #[.slice (some ⟨b, o, none⟩) l.length cap, .slice (some ⟨d, 0, none⟩) 1 1] 70)) (hd : w.heap[d]? = some (.cells #[.int .i64 p.tr, .int .i64 p.dy, .int .i64 p.co, .int .i64 p.se, .int .i64 p.ba, .int .i64 p.be, .int .i64 p.od] 77)) :
    Calls Try.prog 103 #[.slice (some ⟨c, 0, none⟩) 2 2] w fun e w' => ∃ v, e = .returned v ∧ w'.ownsRow w.heap.size 77 7 v (l ++ [p]).length (hcells (l ++ [p])) ∧ Below w.heap.size w w' := by
  obtain ⟨i0, hi, hz0, hz1, hz2⟩ := info_of info_hold
  have x0 : w.cell? ⟨c, 0, none⟩ = some (.slice (some ⟨b, o, none⟩) l.length cap) := cell_at hc 0
  have x1 : w.cell? ⟨c, 1, none⟩ = some (.slice (some ⟨d, 0, none⟩) 1 1) := cell_at hc 1
  have hcz := lt_of hc
  have hdz := lt_of hd
  have HD : Hid (_) := hd
  clear hc hd
  obtain ⟨n, hn⟩ : ∃ n, l.length = n := ⟨_, rfl⟩
  have HN : Hid (l.length = n) := hn
  have hn2 : n ≤ 1048576 := by omega
  rw [hn] at x0
  clear hn hl
  go_enter Try.func103, Try.ntmps103
  go_wp2
  go_loop [3, 11] (fun t i => (t = .int .i64 0 ∧ i = .int .i64 0) ∨ (t = .int .i64 n ∧ i = .int .i64 1) ∨ (t = .int .i64 ((n + 1 : Nat) : Int) ∧ i = .int .i64 2)) (fun _ i => 2 - (intOf i).toNat)
  case atStart => exact Or.inl ⟨rfl, rfl⟩
  case round =>
    rcases hrel with ⟨rfl, rfl⟩ | ⟨rfl, rfl⟩ | ⟨rfl, rfl⟩
    · have d0 : decide ((n : Int) < 0) = false := decide_eq_false (by omega)
      go_wp2
      go_round
      case rel => exact Or.inr (Or.inl ⟨by simp, rfl⟩)
      case measure => simp [intOf]
    · have d0 : decide ((n : Int) + 1 < 0) = false := decide_eq_false (by omega)
      go_wp2
      go_round
      case rel => exact Or.inr (Or.inr ⟨by simp, rfl⟩)
      case measure => simp [intOf]
    · go_wp2_with fail
      refine (grow_val (n + 1) w (by omega) (by omega)).mono ?_
      rintro e w1 ⟨v1, rfl, O1, L1⟩
      obtain ⟨va, vc, rfl, -⟩ := own_form O1
      go_wp2
      go_loopw [6, 27] (fun v i wr => Below w.heap.size w wr ∧ ((i = .int .i64 0 ∧ Hid (wr.ownsRow w.heap.size 77 7 v 0 [])) ∨ (i = .int .i64 1 ∧ Hid (wr.ownsRow w.heap.size 77 7 v n (hcells l))) ∨ (i = .int .i64 2 ∧ Hid (wr.ownsRow w.heap.size 77 7 v (n + 1) (hcells (l ++ [p])))))) (fun _ i _ => 2 - (intOf i).toNat)
      case atStart => exact ⟨L1, Or.inl ⟨rfl, O1⟩⟩
      case round =>
        obtain ⟨L, h | h | h⟩ := hrel
        · obtain ⟨rfl, HO⟩ := h
          have O2 := HO.out
          obtain ⟨va2, vc2, rfl, -⟩ := own_form O2
          have y0 : wr.cell? ⟨c, 0, none⟩ = some (.slice (some ⟨b, o, none⟩) n cap) := (L.cell (p := ⟨c, 0, none⟩) hcz).trans x0
          have IL := I.on L
          clear HO
          go_wp2_with (at_builtin; refine wpList_append_own_at _ rfl _ _ 70 rfl w.heap.size 77 i0 (lgV ⟨0, 0, 0, 0, 0, 0, 0⟩) 7 56 Try.underlying70 hi hz0 hz1 hz2 rfl (by decide) _ _ _ rfl O2 ⟨b, o, none⟩ n cap (hcells l) rfl ?c0 ?c1 ?c2 ?c3 ?c4 ?c5 ?_)
          case c0 => rw [hcells_length, HN.out]
          case c1 => exact slice_at IL
          case c2 => exact hcells_one l
          case c3 => unfold maxLen; omega
          case c4 => omega
          case c5 => exact L.size
          intro v' w5 O5 G5 _ _
          have L5 : Below w.heap.size w w5 := L.grown G5 L.size (fun j hj => (O2.lt j hj).1)
          have O6 : Hid (w5.ownsRow w.heap.size 77 7 v' n (hcells l)) := by
            first
              | exact O5
              | (rw [Nat.zero_add, List.nil_append] at O5; exact O5)
          clear O2 O5 G5 L y0 IL
          go_wp2
          go_roundw
          case rel => exact ⟨L5, Or.inr (Or.inl ⟨rfl, O6⟩)⟩
          case measure => simp [intOf]
        · obtain ⟨rfl, HO⟩ := h
          have O2 := HO.out
          obtain ⟨va2, vc2, rfl, -⟩ := own_form O2
          have y1 : wr.cell? ⟨c, 1, none⟩ = some (.slice (some ⟨d, 0, none⟩) 1 1) := (L.cell (p := ⟨c, 1, none⟩) hcz).trans x1
          have HDL : Hid (_) := kept L hdz HD.out
          clear HO
          go_wp2_with (at_builtin; refine wpList_append_own_at _ rfl _ _ 70 rfl w.heap.size 77 i0 (lgV ⟨0, 0, 0, 0, 0, 0, 0⟩) 7 56 Try.underlying70 hi hz0 hz1 hz2 rfl (by decide) _ _ _ rfl O2 ⟨d, 0, none⟩ 1 1 (hc1 p) rfl rfl ?e1 ?e2 ?e3 ?e4 ?e5 ?_)
          case e1 => exact seven_at HDL.out
          case e2 => intro u hu; simp [hc1] at hu; rcases hu with rfl | rfl | rfl | rfl | rfl | rfl | rfl <;> rfl
          case e3 => unfold maxLen; omega
          case e4 => omega
          case e5 => exact L.size
          intro v' w5 O5 G5 _ _
          have L5 : Below w.heap.size w w5 := L.grown G5 L.size (fun j hj => (O2.lt j hj).1)
          have O6 : Hid (w5.ownsRow w.heap.size 77 7 v' (n + 1) (hcells (l ++ [p]))) := by
            rw [← hcells_snoc]
            exact O5
          clear O2 O5 G5 L y1 HDL
          go_wp2
          go_roundw
          case rel => exact ⟨L5, Or.inr (Or.inr ⟨rfl, O6⟩)⟩
          case measure => simp [intOf]
        · obtain ⟨rfl, HO⟩ := h
          have O2 := HO.out
          obtain ⟨va2, vc2, rfl, -⟩ := own_form O2
          go_wp2
          go_ret
          exact ⟨_, rfl, by rw [List.length_append, HN.out]; exact HO.out, L⟩

set_option maxRecDepth 100000 in
set_option maxHeartbeats 2000000 in
theorem clone_val (b o : Nat) (l : List Hl) (cap : Nat) (w : World) (hl : l.length ≤ 1048577) (I : Holds w (some ⟨b, o, none⟩) l) :
    Calls Try.prog 104 #[.slice (some ⟨b, o, none⟩) l.length cap] w fun e w' => ∃ v, e = .returned v ∧ w'.ownsRow w.heap.size 77 7 v l.length (hcells l) ∧ Below w.heap.size w w' := by
  obtain ⟨i0, hi, hz0, hz1, hz2⟩ := info_of info_hold
  have hnil : ∀ w : World, (binOp .eql 70 (.slice (some ⟨b, o, none⟩) l.length cap) (.slice none 0 0)).run Try.prog w = .ok (.bool false) w := fun w => Lib.run_eql_slice_nil w 70 77 _ _ _ _ _ Try.underlying70
  have O0 := nil_own w 77
  have N0 := new_below w (.cells #[] 77)
  have I0 := I.on N0
  go_enter Try.func104, Try.ntmps104
  go_wp2_with (at_builtin; refine wpList_append_own_at _ rfl _ _ 70 rfl w.heap.size 77 i0 (lgV ⟨0, 0, 0, 0, 0, 0, 0⟩) 7 56 Try.underlying70 hi hz0 hz1 hz2 rfl (by decide) _ _ _ rfl O0 ⟨b, o, none⟩ l.length cap (hcells l) rfl ?c0 ?c1 ?c2 ?c3 ?c4 ?c5 ?_)
  case c0 => rw [hcells_length]
  case c1 => exact slice_at I0
  case c2 => exact hcells_one l
  case c3 => unfold maxLen; omega
  case c4 => omega
  case c5 => exact N0.size
  intro v' w5 O5 G5 _ _
  have L5 : Below w.heap.size w w5 := N0.grown G5 N0.size (fun j hj => (O0.lt j hj).1)
  try rw [Nat.zero_add, List.nil_append] at O5
  have O6 : Hid (World.ownsRow _ _ _ _ _ _ _) := O5
  obtain ⟨va2, vc2, rfl, -⟩ := own_form O5
  clear O0 O5 G5 N0 I0
  go_wp2
  go_ret
  exact ⟨_, rfl, O6.out, L5⟩

/-- What Take tells. -/
def tkL (l : List Hl) (p : Hl) : List Hl := if holdsB (l ++ [p]) = true then l ++ [p] else l

theorem wfs_snoc {l : List Hl} {p : Hl} (h : Wfs l) (hp : Wf p) : Wfs (l ++ [p]) := by
  intro q hq
  rw [List.mem_append] at hq
  rcases hq with h1 | h1
  · exact h q h1
  · rw [List.mem_singleton] at h1
    rw [h1]
    exact hp

set_option maxRecDepth 100000 in
set_option maxHeartbeats 600000 in
theorem implTake_val (b o : Nat) (l : List Hl) (cap : Nat) (p : Hl) (w : World) (hl : l.length ≤ 1048576) (I : Holds w (some ⟨b, o, none⟩) l) (hwf : Wfs l) (hp : Wf p) :
    Calls Try.prog 53 #[.slice (some ⟨b, o, none⟩) l.length cap, lgV p] w fun e w' => (∃ v, e = .returned (.tuple #[v, .bool (holdsB (l ++ [p]))]) ∧ w'.ownsRow (w.heap.size + 1) 77 7 v (tkL l p).length (hcells (tkL l p))) ∧ Below w.heap.size w w' := by
  have e1 : (w.alloc (.cells #[.int .i64 p.tr, .int .i64 p.dy, .int .i64 p.co, .int .i64 p.se, .int .i64 p.ba, .int .i64 p.be, .int .i64 p.od] 77)).heap.size = w.heap.size + 1 := Array.size_push ..
  have e2 : ((w.alloc (.cells #[.int .i64 p.tr, .int .i64 p.dy, .int .i64 p.co, .int .i64 p.se, .int .i64 p.ba, .int .i64 p.be, .int .i64 p.od] 77)).alloc (.cells #[.int .i64 p.tr, .int .i64 p.dy, .int .i64 p.co, .int .i64 p.se, .int .i64 p.ba, .int .i64 p.be, .int .i64 p.od] 77)).heap.size = w.heap.size + 2 := by
    have : ((w.alloc (.cells #[.int .i64 p.tr, .int .i64 p.dy, .int .i64 p.co, .int .i64 p.se, .int .i64 p.ba, .int .i64 p.be, .int .i64 p.od] 77)).alloc (.cells #[.int .i64 p.tr, .int .i64 p.dy, .int .i64 p.co, .int .i64 p.se, .int .i64 p.ba, .int .i64 p.be, .int .i64 p.od] 77)).heap.size = (w.alloc (.cells #[.int .i64 p.tr, .int .i64 p.dy, .int .i64 p.co, .int .i64 p.se, .int .i64 p.ba, .int .i64 p.be, .int .i64 p.od] 77)).heap.size + 1 := Array.size_push ..
    omega
  have e3 : (((w.alloc (.cells #[.int .i64 p.tr, .int .i64 p.dy, .int .i64 p.co, .int .i64 p.se, .int .i64 p.ba, .int .i64 p.be, .int .i64 p.od] 77)).alloc (.cells #[.int .i64 p.tr, .int .i64 p.dy, .int .i64 p.co, .int .i64 p.se, .int .i64 p.ba, .int .i64 p.be, .int .i64 p.od] 77)).alloc (.cells #[.slice (some ⟨b, o, none⟩) l.length cap, .slice (some ⟨w.heap.size + 1, 0, none⟩) 1 1] 70)).heap.size = w.heap.size + 3 := by
    have : (((w.alloc (.cells #[.int .i64 p.tr, .int .i64 p.dy, .int .i64 p.co, .int .i64 p.se, .int .i64 p.ba, .int .i64 p.be, .int .i64 p.od] 77)).alloc (.cells #[.int .i64 p.tr, .int .i64 p.dy, .int .i64 p.co, .int .i64 p.se, .int .i64 p.ba, .int .i64 p.be, .int .i64 p.od] 77)).alloc (.cells #[.slice (some ⟨b, o, none⟩) l.length cap, .slice (some ⟨w.heap.size + 1, 0, none⟩) 1 1] 70)).heap.size = ((w.alloc (.cells #[.int .i64 p.tr, .int .i64 p.dy, .int .i64 p.co, .int .i64 p.se, .int .i64 p.ba, .int .i64 p.be, .int .i64 p.od] 77)).alloc (.cells #[.int .i64 p.tr, .int .i64 p.dy, .int .i64 p.co, .int .i64 p.se, .int .i64 p.ba, .int .i64 p.be, .int .i64 p.od] 77)).heap.size + 1 := Array.size_push ..
    omega
  have hc : (((w.alloc (.cells #[.int .i64 p.tr, .int .i64 p.dy, .int .i64 p.co, .int .i64 p.se, .int .i64 p.ba, .int .i64 p.be, .int .i64 p.od] 77)).alloc (.cells #[.int .i64 p.tr, .int .i64 p.dy, .int .i64 p.co, .int .i64 p.se, .int .i64 p.ba, .int .i64 p.be, .int .i64 p.od] 77)).alloc (.cells #[.slice (some ⟨b, o, none⟩) l.length cap, .slice (some ⟨w.heap.size + 1, 0, none⟩) 1 1] 70)).heap[w.heap.size + 2]? = some (.cells #[.slice (some ⟨b, o, none⟩) l.length cap, .slice (some ⟨w.heap.size + 1, 0, none⟩) 1 1] 70) := by
    have h := heap_new ((w.alloc (.cells #[.int .i64 p.tr, .int .i64 p.dy, .int .i64 p.co, .int .i64 p.se, .int .i64 p.ba, .int .i64 p.be, .int .i64 p.od] 77)).alloc (.cells #[.int .i64 p.tr, .int .i64 p.dy, .int .i64 p.co, .int .i64 p.se, .int .i64 p.ba, .int .i64 p.be, .int .i64 p.od] 77)) (.cells #[.slice (some ⟨b, o, none⟩) l.length cap, .slice (some ⟨w.heap.size + 1, 0, none⟩) 1 1] 70)
    rw [e2] at h
    exact h
  have hd : (((w.alloc (.cells #[.int .i64 p.tr, .int .i64 p.dy, .int .i64 p.co, .int .i64 p.se, .int .i64 p.ba, .int .i64 p.be, .int .i64 p.od] 77)).alloc (.cells #[.int .i64 p.tr, .int .i64 p.dy, .int .i64 p.co, .int .i64 p.se, .int .i64 p.ba, .int .i64 p.be, .int .i64 p.od] 77)).alloc (.cells #[.slice (some ⟨b, o, none⟩) l.length cap, .slice (some ⟨w.heap.size + 1, 0, none⟩) 1 1] 70)).heap[w.heap.size + 1]? = some (.cells #[.int .i64 p.tr, .int .i64 p.dy, .int .i64 p.co, .int .i64 p.se, .int .i64 p.ba, .int .i64 p.be, .int .i64 p.od] 77) := by
    have h := heap_new (w.alloc (.cells #[.int .i64 p.tr, .int .i64 p.dy, .int .i64 p.co, .int .i64 p.se, .int .i64 p.ba, .int .i64 p.be, .int .i64 p.od] 77)) (.cells #[.int .i64 p.tr, .int .i64 p.dy, .int .i64 p.co, .int .i64 p.se, .int .i64 p.ba, .int .i64 p.be, .int .i64 p.od] 77)
    rw [e1] at h
    exact heap_old h _
  have N : Below w.heap.size w (((w.alloc (.cells #[.int .i64 p.tr, .int .i64 p.dy, .int .i64 p.co, .int .i64 p.se, .int .i64 p.ba, .int .i64 p.be, .int .i64 p.od] 77)).alloc (.cells #[.int .i64 p.tr, .int .i64 p.dy, .int .i64 p.co, .int .i64 p.se, .int .i64 p.ba, .int .i64 p.be, .int .i64 p.od] 77)).alloc (.cells #[.slice (some ⟨b, o, none⟩) l.length cap, .slice (some ⟨w.heap.size + 1, 0, none⟩) 1 1] 70)) := join_below (join_below (new_below _ _) (new_below _ _)) (new_below _ _)
  have HC : Hid (∀ _ : Unit, _) := fun _ => concat_val (w.heap.size + 2) b o (w.heap.size + 1) l cap p _ hl (I.on N) hc hd
  have hlen : (l ++ [p]).length = l.length + 1 := by simp
  have HH : Hid (∀ wx va vc, Holds wx va (l ++ [p]) → Calls Try.prog 54 #[.slice va (l ++ [p]).length vc] wx fun e w' => e = .returned (.bool (holdsB (l ++ [p]))) ∧ Below wx.heap.size wx w') := fun wx va vc h => implHolds_val va (l ++ [p]) vc wx (by rw [hlen]; unfold maxLen; omega) h (wfs_snoc hwf hp)
  have HCL : Hid (∀ wx, Below w.heap.size w wx → _) := fun wx (L : Below w.heap.size w wx) => clone_val b o l cap wx (by omega) (I.on L)
  have HZ : Hid (w.heap.size + 1 ≤ (((w.alloc (.cells #[.int .i64 p.tr, .int .i64 p.dy, .int .i64 p.co, .int .i64 p.se, .int .i64 p.ba, .int .i64 p.be, .int .i64 p.od] 77)).alloc (.cells #[.int .i64 p.tr, .int .i64 p.dy, .int .i64 p.co, .int .i64 p.se, .int .i64 p.ba, .int .i64 p.be, .int .i64 p.od] 77)).alloc (.cells #[.slice (some ⟨b, o, none⟩) l.length cap, .slice (some ⟨w.heap.size + 1, 0, none⟩) 1 1] 70)).heap.size) := by show _ ≤ _; omega
  clear hc hd e1 e2 e3
  by_cases hB : holdsB (l ++ [p]) = true
  · have HV : Hid (tkL l p = l ++ [p]) := if_pos hB
    rw [hB] at HH ⊢
    clear hB hlen
    generalize l ++ [p] = lp at *
    generalize tkL l p = tk at *
    go_enter Try.func53, Try.ntmps53
    go_wp2_with fail
    with_reducible refine (HC.out ()).mono ?_
    generalize ((w.alloc (.cells #[.int .i64 p.tr, .int .i64 p.dy, .int .i64 p.co, .int .i64 p.se, .int .i64 p.ba, .int .i64 p.be, .int .i64 p.od] 77)).alloc (.cells #[.int .i64 p.tr, .int .i64 p.dy, .int .i64 p.co, .int .i64 p.se, .int .i64 p.ba, .int .i64 p.be, .int .i64 p.od] 77)).alloc (.cells #[.slice (some ⟨b, o, none⟩) l.length cap, .slice (some ⟨w.heap.size + 1, 0, none⟩) 1 1] 70) = W at *
    rintro e w1 ⟨v, rfl, O1, L1⟩
    obtain ⟨va, vc, rfl, I1⟩ := own_holds O1
    go_wp2_with fail
    refine (HH.out _ _ _ I1).mono ?_
    rintro e w2 ⟨rfl, L2⟩
    have O2 := own_below O1 L2 (Nat.le_refl _)
    have K2 := join_below (join_below N L1) L2
    have O3 : Hid (w2.ownsRow (w.heap.size + 1) 77 7 (.slice va lp.length vc) tk.length (hcells tk)) := by
      rw [HV.out]
      exact own_wider O2 HZ.out
    clear O1 O2 I1
    go_wp2
    refine bodyPost_ret (results_tmp2 rfl _ _ _) rfl ?_
    exact ⟨⟨_, rfl, O3.out⟩, K2⟩
  · have hB : holdsB (l ++ [p]) = false := Bool.eq_false_iff.2 hB
    have HV : Hid (tkL l p = l) := if_neg (by rw [hB]; simp)
    rw [hB] at HH ⊢
    clear hB hlen
    generalize l ++ [p] = lp at *
    generalize tkL l p = tk at *
    go_enter Try.func53, Try.ntmps53
    go_wp2_with fail
    with_reducible refine (HC.out ()).mono ?_
    generalize ((w.alloc (.cells #[.int .i64 p.tr, .int .i64 p.dy, .int .i64 p.co, .int .i64 p.se, .int .i64 p.ba, .int .i64 p.be, .int .i64 p.od] 77)).alloc (.cells #[.int .i64 p.tr, .int .i64 p.dy, .int .i64 p.co, .int .i64 p.se, .int .i64 p.ba, .int .i64 p.be, .int .i64 p.od] 77)).alloc (.cells #[.slice (some ⟨b, o, none⟩) l.length cap, .slice (some ⟨w.heap.size + 1, 0, none⟩) 1 1] 70) = W at *
    rintro e w1 ⟨v, rfl, O1, L1⟩
    obtain ⟨va, vc, rfl, I1⟩ := own_holds O1
    go_wp2_with fail
    refine (HH.out _ _ _ I1).mono ?_
    rintro e w2 ⟨rfl, L2⟩
    have K2 := join_below (join_below N L1) L2
    have hk2 : w.heap.size + 1 ≤ w2.heap.size := by have h1 := HZ.out; have h2 := L1.size; have h3 := L2.size; omega
    clear O1 I1
    go_wp2_with fail
    refine (HCL.out _ K2).mono ?_
    rintro e w3 ⟨v3, rfl, O3, L3⟩
    have K3 := join_below K2 L3
    have O4 : Hid (w3.ownsRow (w.heap.size + 1) 77 7 v3 tk.length (hcells tk)) := by
      rw [HV.out]
      exact own_wider O3 hk2
    clear O3
    go_wp2
    refine bodyPost_ret (results_tmp2 rfl _ _ _) rfl ?_
    exact ⟨⟨_, rfl, O4.out⟩, K3⟩

set_option maxRecDepth 100000 in
set_option maxHeartbeats 4000000 in
theorem specTake_val (b o : Nat) (l : List Hl) (cap : Nat) (p : Hl) (w : World) (hl : l.length ≤ 1048576) (I : Holds w (some ⟨b, o, none⟩) l) :
    Calls Try.prog 143 #[.slice (some ⟨b, o, none⟩) l.length cap, lgV p] w fun e w' => (∃ v, e = .returned (.tuple #[v, .bool (holdsB (l ++ [p]))]) ∧ w'.ownsRow w.heap.size 77 7 v (tkL l p).length (hcells (tkL l p))) ∧ Below w.heap.size w w' := by
  obtain ⟨i0, hi, hz0, hz1, hz2⟩ := info_of info_hold
  have N := new_below w (.cells #[.int .i64 p.tr, .int .i64 p.dy, .int .i64 p.co, .int .i64 p.se, .int .i64 p.ba, .int .i64 p.be, .int .i64 p.od] 77)
  have HB : Hid (Bx (w.alloc (.cells #[.int .i64 p.tr, .int .i64 p.dy, .int .i64 p.co, .int .i64 p.se, .int .i64 p.ba, .int .i64 p.be, .int .i64 p.od] 77)) w.heap.size p) := Bx.of (heap_new _ _)
  have hcW : w.heap.size < (w.alloc (.cells #[.int .i64 p.tr, .int .i64 p.dy, .int .i64 p.co, .int .i64 p.se, .int .i64 p.ba, .int .i64 p.be, .int .i64 p.od] 77)).heap.size := by simp
  have hlen : (l ++ [p]).length = l.length + 1 := by simp
  have HH : Hid (∀ wx va vc, Holds wx va (l ++ [p]) → Calls Try.prog 52 #[.slice va (l ++ [p]).length vc] wx fun e w' => e = .returned (.bool (holdsB (l ++ [p]))) ∧ Below wx.heap.size wx w') := fun wx va vc h => specHolds_val va (l ++ [p]) vc wx (by rw [hlen]; unfold maxLen; omega) h
  have HI : Hid (∀ wx, Below w.heap.size w wx → Holds wx (some ⟨b, o, none⟩) l) := fun wx L => I.on L
  have HLN : Hid ((l ++ [p]).length = l.length + 1) := hlen
  have HSN : Hid (hcells l ++ hc1 p = hcells (l ++ [p])) := hcells_snoc l p
  obtain ⟨R, hR⟩ : ∃ R, holdsB (l ++ [p]) = R := ⟨_, rfl⟩
  have HVT : Hid (R = true → tkL l p = l ++ [p]) := fun h => if_pos (hR.trans h)
  have HVF : Hid (R = false → tkL l p = l) := fun h => if_neg (by rw [hR, h]; simp)
  rw [hR] at HH ⊢
  clear hR hlen I
  generalize l ++ [p] = lp at *
  generalize tkL l p = tk at *
  obtain ⟨n, hn⟩ : ∃ n, l.length = n := ⟨_, rfl⟩
  have HN : Hid (l.length = n) := hn
  have hn2 : n ≤ 1048576 := by omega
  rw [hn] at HLN ⊢
  clear hn hl
  go_enter Try.func143, Try.ntmps143
  go_wp2
  generalize w.alloc (.cells #[.int .i64 p.tr, .int .i64 p.dy, .int .i64 p.co, .int .i64 p.se, .int .i64 p.ba, .int .i64 p.be, .int .i64 p.od] 77) = W at *
  go_cut [6] from 7 (fun v wc => Below w.heap.size w wc ∧ Hid (wc.ownsRow w.heap.size 77 7 v lp.length (hcells lp)))
  case first =>
    refine wp_region_held_drew (S := (fun w' => Bx w' w.heap.size p)) (by kernel_rfl) ?_ (fun hHeld => ?_)
    · exact HB.out.on ((Below.refl _ _).drew) hcW
    refine wpAnyH_take (i := 1) (v := .slice (some ⟨b, o, none⟩) n cap) rfl (by kernel_rfl) (by kernel_rfl) (by kernel_rfl) (fun _ _ _ h => h) (Or.inl ⟨by kernel_rfl, fun w hSw => by first | (go_simp; done) | (dsimp only at hSw; obtain ⟨x0, x1, x2, x3, x4, x5, x6⟩ := hSw; go_simp; done) | rfl⟩) (by assumption) ?_
    simp only [Act.put, List.getElem_toArray, List.getElem_cons_succ, List.getElem_cons_zero, List.setIfInBounds_toArray, List.set_cons_succ, List.set_cons_zero]
    refine wpAnyH_take (i := 3) (v := .agg #[.int .i64 p.tr, .int .i64 p.dy, .int .i64 p.co, .int .i64 p.se, .int .i64 p.ba, .int .i64 p.be, .int .i64 p.od]) rfl (by kernel_rfl) (by kernel_rfl) (by kernel_rfl) (fun _ _ _ h => h) (Or.inl ⟨by kernel_rfl, fun w hSw => by first | (go_simp; done) | (dsimp only at hSw; obtain ⟨x0, x1, x2, x3, x4, x5, x6⟩ := hSw; go_simp; done) | rfl⟩) (by assumption) ?_
    simp only [Act.put, List.getElem_toArray, List.getElem_cons_succ, List.getElem_cons_zero, List.setIfInBounds_toArray, List.set_cons_succ, List.set_cons_zero]
    have K0 : Below W.heap.size W W.drew := (Below.refl _ _).drew
    generalize W.drew = w0 at *
    refine wpAnyH_ready (rs := [0, 4]) (by kernel_rfl) (by simp) ?_
    refine AllReadyH.cons rfl (fun K hK => ?_) (AllReadyH.cons rfl (fun K hK => ?_) (AllReadyH.nil))
    · go_simp
      have K21 : Below W.heap.size W (w0.alloc (.cells #[] 77)) := K0.alloc K0.size _
      have O21 := nil_own w0 77
      have O21 := own_wider O21 K0.size
      refine hK.out _ _ ?_ (fun hHeld2 => ?_)
      · exact HB.out.on K21 hcW
      clear hK K hHeld
      have hHeld := hHeld2
      clear hHeld2
      generalize w0.heap.size = z21 at *
      generalize w0.alloc (.cells #[] 77) = w21 at *
      refine wpAnyH_ready (rs := [2, 4]) (by kernel_rfl) (by simp) ?_
      refine AllReadyH.cons rfl (fun K hK => ?_) (AllReadyH.cons rfl (fun K hK => ?_) (AllReadyH.nil))
      · rw [if_pos (by kernel_rfl)]
        refine wp_append_at _ _ 70 rfl W.heap.size 77 i0 (lgV ⟨0, 0, 0, 0, 0, 0, 0⟩) 7 56 Try.underlying70 hi hz0 hz1 hz2 rfl (by omega) _ _ _ rfl O21 ⟨b, o, none⟩ n cap (hcells l) rfl (by rw [hcells_length, HN.out]) (slice_at (HI.out _ (join_below N K21))) (hcells_one l) (by unfold maxLen; omega) (by omega) (K21).size ?_
        intro v22 w22 O22 G22 hl22
        try simp only [Act.put, List.getElem_toArray, List.getElem_cons_succ, List.getElem_cons_zero, List.setIfInBounds_toArray, List.set_cons_succ, List.set_cons_zero]
        have K22 : Below W.heap.size W w22 := K21.grown G22 (K21).size (fun j hj => (O21.lt j hj).1)
        rw [Nat.zero_add, List.nil_append] at O22
        refine hK.out _ _ ?_ (fun hHeld2 => ?_)
        · exact HB.out.on K22 hcW
        clear hK K hHeld
        have hHeld := hHeld2
        clear hHeld2
        refine wpAnyH_ready (rs := [4]) (by kernel_rfl) (by simp) ?_
        refine AllReadyH.cons rfl (fun K hK => ?_) (AllReadyH.nil)
        go_simp
        have K23 : Below W.heap.size W (w22.alloc (.cells #[.int .i64 p.tr, .int .i64 p.dy, .int .i64 p.co, .int .i64 p.se, .int .i64 p.ba, .int .i64 p.be, .int .i64 p.od] 77)) := K22.alloc K22.size _
        have m23 := heap_new w22 (.cells #[.int .i64 p.tr, .int .i64 p.dy, .int .i64 p.co, .int .i64 p.se, .int .i64 p.ba, .int .i64 p.be, .int .i64 p.od] 77)
        have O23 := own_below O22 (new_below w22 (.cells #[.int .i64 p.tr, .int .i64 p.dy, .int .i64 p.co, .int .i64 p.se, .int .i64 p.ba, .int .i64 p.be, .int .i64 p.od] 77)) (Nat.le_refl _)
        refine hK.out _ _ ?_ (fun hHeld2 => ?_)
        · exact HB.out.on K23 hcW
        clear hK K hHeld
        have hHeld := hHeld2
        clear hHeld2
        obtain ⟨ad, had⟩ : ∃ ad, w22.heap.size = ad := ⟨_, rfl⟩
        rw [had] at m23
        try rw [had] at hne
        try rw [had]
        clear had
        generalize w22.alloc (.cells #[.int .i64 p.tr, .int .i64 p.dy, .int .i64 p.co, .int .i64 p.se, .int .i64 p.ba, .int .i64 p.be, .int .i64 p.od] 77) = w23 at *
        refine wpAnyH_ready (rs := [5]) (by kernel_rfl) (by simp) ?_
        refine AllReadyH.cons rfl (fun K hK => ?_) (AllReadyH.nil)
        rw [if_pos (by kernel_rfl)]
        refine wp_append_at _ _ 70 rfl W.heap.size 77 i0 (lgV ⟨0, 0, 0, 0, 0, 0, 0⟩) 7 56 Try.underlying70 hi hz0 hz1 hz2 rfl (by omega) _ _ _ rfl O23 ⟨ad, 0, none⟩ 1 1 (hc1 p) rfl rfl (seven_at m23) (by simp [hc1, Value.oneCell', Value.cells]) (by unfold maxLen; omega) (by omega) (K23).size ?_
        intro v24 w24 O24 G24 hl24
        try simp only [Act.put, List.getElem_toArray, List.getElem_cons_succ, List.getElem_cons_zero, List.setIfInBounds_toArray, List.set_cons_succ, List.set_cons_zero]
        have K24 : Below W.heap.size W w24 := K23.grown G24 (K23).size (fun j hj => (O23.lt j hj).1)
        refine hK.out _ _ ?_ (fun hHeld2 => ?_)
        · exact HB.out.on K24 hcW
        clear hK K hHeld
        have hHeld := hHeld2
        clear hHeld2
        refine wpAnyH_ready (rs := [6]) (by kernel_rfl) (by simp) ?_
        refine AllReadyH.cons rfl (fun K hK => ?_) (AllReadyH.nil)
        go_simp
        refine hK.out _ _ ?_ (fun hHeld2 => ?_)
        · exact (HB.out.on K24 hcW)
        clear hK K hHeld
        have hHeld := hHeld2
        clear hHeld2
        refine wpAnyH_done (by kernel_rfl) ?_ _
        clear hHeld
        go_wp2
        go_meet
        case rel => exact ⟨join_below N K24, by rw [← HSN.out, HLN.out]; exact own_wider O24 (by first | exact N.size | exact (join_below N K24).size | omega)⟩
      · go_simp
        have K25 : Below W.heap.size W (w21.alloc (.cells #[.int .i64 p.tr, .int .i64 p.dy, .int .i64 p.co, .int .i64 p.se, .int .i64 p.ba, .int .i64 p.be, .int .i64 p.od] 77)) := K21.alloc K21.size _
        have m25 := heap_new w21 (.cells #[.int .i64 p.tr, .int .i64 p.dy, .int .i64 p.co, .int .i64 p.se, .int .i64 p.ba, .int .i64 p.be, .int .i64 p.od] 77)
        have O25 := own_below O21 (new_below w21 (.cells #[.int .i64 p.tr, .int .i64 p.dy, .int .i64 p.co, .int .i64 p.se, .int .i64 p.ba, .int .i64 p.be, .int .i64 p.od] 77)) (Nat.le_refl _)
        have hne : w21.heap.size ≠ z21 := by have := (O21.lt z21 rfl).2; omega
        refine hK.out _ _ ?_ (fun hHeld2 => ?_)
        · exact HB.out.on K25 hcW
        clear hK K hHeld
        have hHeld := hHeld2
        clear hHeld2
        obtain ⟨ad, had⟩ : ∃ ad, w21.heap.size = ad := ⟨_, rfl⟩
        rw [had] at m25
        try rw [had] at hne
        try rw [had]
        clear had
        generalize w21.alloc (.cells #[.int .i64 p.tr, .int .i64 p.dy, .int .i64 p.co, .int .i64 p.se, .int .i64 p.ba, .int .i64 p.be, .int .i64 p.od] 77) = w25 at *
        refine wpAnyH_ready (rs := [2]) (by kernel_rfl) (by simp) ?_
        refine AllReadyH.cons rfl (fun K hK => ?_) (AllReadyH.nil)
        rw [if_pos (by kernel_rfl)]
        refine wp_append_at _ _ 70 rfl W.heap.size 77 i0 (lgV ⟨0, 0, 0, 0, 0, 0, 0⟩) 7 56 Try.underlying70 hi hz0 hz1 hz2 rfl (by omega) _ _ _ rfl O25 ⟨b, o, none⟩ n cap (hcells l) rfl (by rw [hcells_length, HN.out]) (slice_at (HI.out _ (join_below N K25))) (hcells_one l) (by unfold maxLen; omega) (by omega) (K25).size ?_
        intro v26 w26 O26 G26 hl26
        try simp only [Act.put, List.getElem_toArray, List.getElem_cons_succ, List.getElem_cons_zero, List.setIfInBounds_toArray, List.set_cons_succ, List.set_cons_zero]
        have K26 : Below W.heap.size W w26 := K25.grown G26 (K25).size (fun j hj => (O25.lt j hj).1)
        rw [Nat.zero_add, List.nil_append] at O26
        have m26 : w26.heap[ad]? = some (.cells #[.int .i64 p.tr, .int .i64 p.dy, .int .i64 p.co, .int .i64 p.se, .int .i64 p.ba, .int .i64 p.be, .int .i64 p.od] 77) := (G26.block ad (lt_of m25) (fun h => hne (Option.some.inj h))).trans m25
        refine hK.out _ _ ?_ (fun hHeld2 => ?_)
        · exact HB.out.on K26 hcW
        clear hK K hHeld
        have hHeld := hHeld2
        clear hHeld2
        refine wpAnyH_ready (rs := [5]) (by kernel_rfl) (by simp) ?_
        refine AllReadyH.cons rfl (fun K hK => ?_) (AllReadyH.nil)
        rw [if_pos (by kernel_rfl)]
        refine wp_append_at _ _ 70 rfl W.heap.size 77 i0 (lgV ⟨0, 0, 0, 0, 0, 0, 0⟩) 7 56 Try.underlying70 hi hz0 hz1 hz2 rfl (by omega) _ _ _ rfl O26 ⟨ad, 0, none⟩ 1 1 (hc1 p) rfl rfl (seven_at m26) (by simp [hc1, Value.oneCell', Value.cells]) (by unfold maxLen; omega) (by omega) (K26).size ?_
        intro v27 w27 O27 G27 hl27
        try simp only [Act.put, List.getElem_toArray, List.getElem_cons_succ, List.getElem_cons_zero, List.setIfInBounds_toArray, List.set_cons_succ, List.set_cons_zero]
        have K27 : Below W.heap.size W w27 := K26.grown G27 (K26).size (fun j hj => (O26.lt j hj).1)
        refine hK.out _ _ ?_ (fun hHeld2 => ?_)
        · exact HB.out.on K27 hcW
        clear hK K hHeld
        have hHeld := hHeld2
        clear hHeld2
        refine wpAnyH_ready (rs := [6]) (by kernel_rfl) (by simp) ?_
        refine AllReadyH.cons rfl (fun K hK => ?_) (AllReadyH.nil)
        go_simp
        refine hK.out _ _ ?_ (fun hHeld2 => ?_)
        · exact (HB.out.on K27 hcW)
        clear hK K hHeld
        have hHeld := hHeld2
        clear hHeld2
        refine wpAnyH_done (by kernel_rfl) ?_ _
        clear hHeld
        go_wp2
        go_meet
        case rel => exact ⟨join_below N K27, by rw [← HSN.out, HLN.out]; exact own_wider O27 (by first | exact N.size | exact (join_below N K27).size | omega)⟩
    · go_simp
      have K28 : Below W.heap.size W (w0.alloc (.cells #[.int .i64 p.tr, .int .i64 p.dy, .int .i64 p.co, .int .i64 p.se, .int .i64 p.ba, .int .i64 p.be, .int .i64 p.od] 77)) := K0.alloc K0.size _
      have m28 := heap_new w0 (.cells #[.int .i64 p.tr, .int .i64 p.dy, .int .i64 p.co, .int .i64 p.se, .int .i64 p.ba, .int .i64 p.be, .int .i64 p.od] 77)
      refine hK.out _ _ ?_ (fun hHeld2 => ?_)
      · exact HB.out.on K28 hcW
      clear hK K hHeld
      have hHeld := hHeld2
      clear hHeld2
      obtain ⟨ad, had⟩ : ∃ ad, w0.heap.size = ad := ⟨_, rfl⟩
      rw [had] at m28
      try rw [had] at hne
      try rw [had]
      clear had
      generalize w0.alloc (.cells #[.int .i64 p.tr, .int .i64 p.dy, .int .i64 p.co, .int .i64 p.se, .int .i64 p.ba, .int .i64 p.be, .int .i64 p.od] 77) = w28 at *
      refine wpAnyH_ready (rs := [0]) (by kernel_rfl) (by simp) ?_
      refine AllReadyH.cons rfl (fun K hK => ?_) (AllReadyH.nil)
      go_simp
      have K29 : Below W.heap.size W (w28.alloc (.cells #[] 77)) := K28.alloc K28.size _
      have O29 := nil_own w28 77
      have O29 := own_wider O29 K28.size
      have m29 := heap_old m28 (.cells #[] 77)
      have hne : ad ≠ w28.heap.size := by have := lt_of m28; omega
      refine hK.out _ _ ?_ (fun hHeld2 => ?_)
      · exact HB.out.on K29 hcW
      clear hK K hHeld
      have hHeld := hHeld2
      clear hHeld2
      generalize w28.heap.size = z29 at *
      generalize w28.alloc (.cells #[] 77) = w29 at *
      refine wpAnyH_ready (rs := [2]) (by kernel_rfl) (by simp) ?_
      refine AllReadyH.cons rfl (fun K hK => ?_) (AllReadyH.nil)
      rw [if_pos (by kernel_rfl)]
      refine wp_append_at _ _ 70 rfl W.heap.size 77 i0 (lgV ⟨0, 0, 0, 0, 0, 0, 0⟩) 7 56 Try.underlying70 hi hz0 hz1 hz2 rfl (by omega) _ _ _ rfl O29 ⟨b, o, none⟩ n cap (hcells l) rfl (by rw [hcells_length, HN.out]) (slice_at (HI.out _ (join_below N K29))) (hcells_one l) (by unfold maxLen; omega) (by omega) (K29).size ?_
      intro v30 w30 O30 G30 hl30
      try simp only [Act.put, List.getElem_toArray, List.getElem_cons_succ, List.getElem_cons_zero, List.setIfInBounds_toArray, List.set_cons_succ, List.set_cons_zero]
      have K30 : Below W.heap.size W w30 := K29.grown G30 (K29).size (fun j hj => (O29.lt j hj).1)
      rw [Nat.zero_add, List.nil_append] at O30
      have m30 : w30.heap[ad]? = some (.cells #[.int .i64 p.tr, .int .i64 p.dy, .int .i64 p.co, .int .i64 p.se, .int .i64 p.ba, .int .i64 p.be, .int .i64 p.od] 77) := (G30.block ad (lt_of m29) (fun h => hne (Option.some.inj h))).trans m29
      refine hK.out _ _ ?_ (fun hHeld2 => ?_)
      · exact HB.out.on K30 hcW
      clear hK K hHeld
      have hHeld := hHeld2
      clear hHeld2
      refine wpAnyH_ready (rs := [5]) (by kernel_rfl) (by simp) ?_
      refine AllReadyH.cons rfl (fun K hK => ?_) (AllReadyH.nil)
      rw [if_pos (by kernel_rfl)]
      refine wp_append_at _ _ 70 rfl W.heap.size 77 i0 (lgV ⟨0, 0, 0, 0, 0, 0, 0⟩) 7 56 Try.underlying70 hi hz0 hz1 hz2 rfl (by omega) _ _ _ rfl O30 ⟨ad, 0, none⟩ 1 1 (hc1 p) rfl rfl (seven_at m30) (by simp [hc1, Value.oneCell', Value.cells]) (by unfold maxLen; omega) (by omega) (K30).size ?_
      intro v31 w31 O31 G31 hl31
      try simp only [Act.put, List.getElem_toArray, List.getElem_cons_succ, List.getElem_cons_zero, List.setIfInBounds_toArray, List.set_cons_succ, List.set_cons_zero]
      have K31 : Below W.heap.size W w31 := K30.grown G31 (K30).size (fun j hj => (O30.lt j hj).1)
      refine hK.out _ _ ?_ (fun hHeld2 => ?_)
      · exact HB.out.on K31 hcW
      clear hK K hHeld
      have hHeld := hHeld2
      clear hHeld2
      refine wpAnyH_ready (rs := [6]) (by kernel_rfl) (by simp) ?_
      refine AllReadyH.cons rfl (fun K hK => ?_) (AllReadyH.nil)
      go_simp
      refine hK.out _ _ ?_ (fun hHeld2 => ?_)
      · exact (HB.out.on K31 hcW)
      clear hK K hHeld
      have hHeld := hHeld2
      clear hHeld2
      refine wpAnyH_done (by kernel_rfl) ?_ _
      clear hHeld
      go_wp2
      go_meet
      case rel => exact ⟨join_below N K31, by rw [← HSN.out, HLN.out]; exact own_wider O31 (by first | exact N.size | exact (join_below N K31).size | omega)⟩
  case rest =>
    obtain ⟨K1, HO⟩ := hcut
    have O1 := HO.out
    obtain ⟨va, vc, rfl, I1⟩ := own_holds O1
    go_wp2_with fail
    refine (HH.out _ _ _ I1).mono ?_
    rintro e w2 ⟨rfl, L2⟩
    have K2 := join_below K1 L2
    have O2 : Hid (World.ownsRow _ _ _ _ _ _ _) := own_below O1 L2 (Nat.le_refl _)
    clear O1 I1 HO L2
    cases R
    · have HE : Hid (tk = l) := HVF.out rfl
      have O3 := nil_own w2 77
      have N3 := new_below w2 (.cells #[] 77)
      have K3 := join_below K2 N3
      have I3 := HI.out _ K3
      clear O2
      go_wp2_with (at_builtin; refine wpList_append_own_at _ rfl _ _ 70 rfl w2.heap.size 77 i0 (lgV ⟨0, 0, 0, 0, 0, 0, 0⟩) 7 56 Try.underlying70 hi hz0 hz1 hz2 rfl (by decide) _ _ _ rfl O3 ⟨b, o, none⟩ n cap (hcells l) rfl ?c0 ?c1 ?c2 ?c3 ?c4 ?c5 ?_)
      case c0 => rw [hcells_length, HN.out]
      case c1 => exact slice_at I3
      case c2 => exact hcells_one l
      case c3 => unfold maxLen; omega
      case c4 => omega
      case c5 => exact N3.size
      intro v' w5 O5 G5 _ _
      have L5 : Below w.heap.size w w5 := K3.grown G5 K3.size (fun j hj => Nat.le_trans K2.size (O3.lt j hj).1)
      have O6 : Hid (w5.ownsRow w.heap.size 77 7 v' tk.length (hcells tk)) := by
        rw [HE.out, HN.out]
        first
          | exact own_wider O5 K2.size
          | (rw [Nat.zero_add, List.nil_append] at O5; exact own_wider O5 K2.size)
      clear O3 O5 G5 N3 K3 I3
      go_wp2
      refine bodyPost_ret (results_tmp2 rfl _ _ _) rfl ?_
      exact ⟨⟨_, rfl, O6.out⟩, L5⟩
    · have HE : Hid (tk = lp) := HVT.out rfl
      have O3 : Hid (w2.ownsRow w.heap.size 77 7 (.slice va lp.length vc) tk.length (hcells tk)) := by
        rw [HE.out]
        exact O2.out
      clear O2
      go_wp2
      refine bodyPost_ret (results_tmp2 rfl _ _ _) rfl ?_
      exact ⟨⟨_, rfl, O3.out⟩, K2⟩


end Se
end Go.Proofs.Ytiollklighmojad

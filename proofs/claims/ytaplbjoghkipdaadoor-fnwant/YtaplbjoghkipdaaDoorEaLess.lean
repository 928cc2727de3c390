/- The contract of the model's l06Less: rides are compared one by one. -/
import Derived.Test.YtaplbjoghkipdaaDoorMathRd
import Derived.BigRegion
import Derived.BigQuiet
import Derived.Deep.CutRange
namespace Go.Proofs.YtaplbjoghkipdaaDoor
namespace Rd
open Go.ChangeShapes Go.WideShapes Go.ChangeAt Go.RowKit
open Pk (new_below join_below cell_at heap_new frozen_at lt_of kept heap_old)
set_option linter.unusedSimpArgs false
set_option linter.unusedVariables false

/-- The numbers of a ride. -/
def nth4 (r : Ri) (j : Nat) : Int := if j = 0 then r.tr else if j = 1 then r.dy else if j = 2 then r.fr else r.to

theorem flat_cons (r : Ri) (P : List Ri) : flat (r :: P) = r.tr :: r.dy :: r.fr :: r.to :: flat P := by simp [flat]

theorem lexlt_at (x y : Int) (a b : List Int) : lexlt (x :: a) (y :: b) = if x = y then lexlt a b else decide (x < y) := by
  by_cases h : x = y
  · subst h; simp [lexlt]
  · rw [if_neg h]
    unfold lexlt
    simp [h]

theorem cmp_ne (r s : Ri) (P Q : List Ri) (j : Nat) (hj : j < 4) (h : ∀ i, i < j → nth4 r i = nth4 s i) (hne : ¬ nth4 r j = nth4 s j) : lexlt (flat (r :: P)) (flat (s :: Q)) = decide (nth4 r j < nth4 s j) := by
  rw [flat_cons, flat_cons, lexlt_at, lexlt_at, lexlt_at, lexlt_at]
  have e0 : 0 < j → r.tr = s.tr := fun h0 => h 0 h0
  have e1 : 1 < j → r.dy = s.dy := fun h0 => h 1 h0
  have e2 : 2 < j → r.fr = s.fr := fun h0 => h 2 h0
  match j, hj, hne with
  | 0, _, hne => rw [if_neg (show ¬ r.tr = s.tr from hne)]; rfl
  | 1, _, hne => rw [if_pos (e0 (by omega)), if_neg (show ¬ r.dy = s.dy from hne)]; rfl
  | 2, _, hne => rw [if_pos (e0 (by omega)), if_pos (e1 (by omega)), if_neg (show ¬ r.fr = s.fr from hne)]; rfl
  | 3, _, hne => rw [if_pos (e0 (by omega)), if_pos (e1 (by omega)), if_pos (e2 (by omega)), if_neg (show ¬ r.to = s.to from hne)]; rfl

theorem cmp_eq (r s : Ri) (P Q : List Ri) (h : ∀ i, i < 4 → nth4 r i = nth4 s i) : lexlt (flat (r :: P)) (flat (s :: Q)) = lexlt (flat P) (flat Q) := by
  rw [flat_cons, flat_cons, lexlt_at, lexlt_at, lexlt_at, lexlt_at]
  have e0 : r.tr = s.tr := h 0 (by omega)
  have e1 : r.dy = s.dy := h 1 (by omega)
  have e2 : r.fr = s.fr := h 2 (by omega)
  have e3 : r.to = s.to := h 3 (by omega)
  rw [if_pos e0, if_pos e1, if_pos e2, if_pos e3]

theorem less_end (p q : List Ri) (k : Nat) (h : ¬ k < p.length ∨ ¬ k < q.length) : lexlt (flat (p.drop k)) (flat (q.drop k)) = false := by
  rcases h with h | h
  · rw [List.drop_eq_nil_of_le (by omega)]
    simp [flat, lexlt]
  · rw [show q.drop k = [] from List.drop_eq_nil_of_le (by omega)]
    cases p.drop k with
    | nil => simp [flat, lexlt]
    | cons x l => rw [flat_cons]; simp [flat, lexlt]

theorem four_at {w : World} {g : Nat} {r : Ri} {ty : TypeId} {f : Nat × Nat} (h : w.heap[g]? = some (.cells #[.int .i64 r.tr, .int .i64 r.dy, .int .i64 r.fr, .int .i64 r.to] ty f)) (j : Nat) (hj : j < 4) : w.cell? ⟨g, j, none⟩ = some (.int .i64 (nth4 r j)) := by
  rw [cell_at h j]
  match j, hj with
  | 0, _ => rfl
  | 1, _ => rfl
  | 2, _ => rfl
  | 3, _ => rfl

set_option maxHeartbeats 8000000 in
set_option maxRecDepth 100000 in
theorem specLess_val (a b : Option Addr) (p q : List Ri) (ca cb : Nat) (w : World) (hp : p.length ≤ 1000) (hq : q.length ≤ 1000) (I : Rides w a p) (J : Rides w b q) :
    Calls Tryd.prog 76 #[.slice a p.length ca, .slice b q.length cb] w fun e w' => e = .returned (.bool (less p q)) ∧ Below w.heap.size w w' := by
  have H0 : Hid (less p q = lexlt (flat (p.drop 0)) (flat (q.drop 0))) := rfl
  generalize less p q = R at *
  go_enter Tryd.func76, Tryd.ntmps76
  go_wp2
  go_loopw [5] (fun i wr => ∃ k : Nat, k ≤ p.length ∧ k ≤ q.length ∧ i = .int .i64 k ∧ Below w.heap.size w wr ∧ Hid (R = lexlt (flat (p.drop k)) (flat (q.drop k)))) (fun i _ => p.length - (intOf i).toNat)
  case atStart => exact ⟨0, by omega, by omega, rfl, Below.refl _ _, H0⟩
  case round =>
    obtain ⟨k, hk, hk2, rfl, L, H⟩ := hrel
    by_cases hkp : k < p.length
    · by_cases hkq : k < q.length
      · obtain ⟨b1, o1, rfl, hb1, c0, c1, c2, c3⟩ := (I.on L).at k hkp
        obtain ⟨b2, o2, rfl, hb2, d0, d1, d2, d3⟩ := (J.on L).at k hkq
        have HC : Hid (R = lexlt (flat (p[k] :: p.drop (k + 1))) (flat (q[k] :: q.drop (k + 1)))) := by
          show _ = _
          rw [H.out, List.drop_eq_getElem_cons hkp, List.drop_eq_getElem_cons hkq]
        clear H H0
        generalize p[k] = r at *
        generalize q[k] = s at *
        have hd1 : decide ((k : Int) < (p.length : Int)) = true := decide_eq_true (by omega)
        have hd2 : decide ((k : Int) < (q.length : Int)) = true := decide_eq_true (by omega)
        go_wp2
        go_cut [6] from 9 to 84 (fun x wc => x = .slice (some ⟨wr.heap.size, 0, none⟩) 4 4 ∧ wc = (wr.alloc (.cells #[.int .i64 r.tr, .int .i64 r.dy, .int .i64 r.fr, .int .i64 r.to] 3)).drew)
        case first =>
          go_region
          go_wp2
          go_meet
          case rel => exact ⟨rfl, rfl⟩
        case rest =>
        obtain ⟨rfl, rfl⟩ := hcut
        have N1 := new_below wr (.cells #[.int .i64 r.tr, .int .i64 r.dy, .int .i64 r.fr, .int .i64 r.to] 3)
        have n1 := heap_new wr (.cells #[.int .i64 r.tr, .int .i64 r.dy, .int .i64 r.fr, .int .i64 r.to] 3)
        have M1 : Below wr.heap.size wr ((wr.alloc (.cells #[.int .i64 r.tr, .int .i64 r.dy, .int .i64 r.fr, .int .i64 r.to] 3)).drew) := N1.drew
        have m1 : ((wr.alloc (.cells #[.int .i64 r.tr, .int .i64 r.dy, .int .i64 r.fr, .int .i64 r.to] 3)).drew).heap[wr.heap.size]? = some (.cells #[.int .i64 r.tr, .int .i64 r.dy, .int .i64 r.fr, .int .i64 r.to] 3) := n1
        have f0 := M1.cell (p := ⟨b2, o2 + k * 4, none⟩) hb2
        have f1 := M1.cell (p := ⟨b2, o2 + k * 4 + 1, none⟩) hb2
        have f2 := M1.cell (p := ⟨b2, o2 + k * 4 + 2, none⟩) hb2
        have f3 := M1.cell (p := ⟨b2, o2 + k * 4 + 3, none⟩) hb2
        rw [d0] at f0
        rw [d1] at f1
        rw [d2] at f2
        rw [d3] at f3
        clear c0 c1 c2 c3 d0 d1 d2 d3 N1 n1
        have L1 := join_below L M1
        generalize (wr.alloc (.cells #[.int .i64 r.tr, .int .i64 r.dy, .int .i64 r.fr, .int .i64 r.to] 3)).drew = W1 at *
        have hb1 : wr.heap.size < W1.heap.size := lt_of m1
        go_wp2
        go_cut [7] from 9 to 84 (fun y wc => y = .slice (some ⟨W1.heap.size, 0, none⟩) 4 4 ∧ wc = (W1.alloc (.cells #[.int .i64 s.tr, .int .i64 s.dy, .int .i64 s.fr, .int .i64 s.to] 3)).drew)
        case first =>
          go_region
          go_wp2
          go_meet
          case rel => exact ⟨rfl, rfl⟩
        case rest =>
        obtain ⟨rfl, rfl⟩ := hcut
        have N2 : Below W1.heap.size W1 ((W1.alloc (.cells #[.int .i64 s.tr, .int .i64 s.dy, .int .i64 s.fr, .int .i64 s.to] 3)).drew) := (new_below W1 (.cells #[.int .i64 s.tr, .int .i64 s.dy, .int .i64 s.fr, .int .i64 s.to] 3)).drew
        have m2 : ((W1.alloc (.cells #[.int .i64 s.tr, .int .i64 s.dy, .int .i64 s.fr, .int .i64 s.to] 3)).drew).heap[W1.heap.size]? = some (.cells #[.int .i64 s.tr, .int .i64 s.dy, .int .i64 s.fr, .int .i64 s.to] 3) := heap_new W1 _
        have m1' := kept N2 (lt_of m1) m1
        have L2 := join_below L1 N2
        clear f0 f1 f2 f3 m1 M1 L1 N2
        generalize (W1.alloc (.cells #[.int .i64 s.tr, .int .i64 s.dy, .int .i64 s.fr, .int .i64 s.to] 3)).drew = W2 at *
        generalize wr.heap.size = g1 at *
        generalize W1.heap.size = g2 at *
        have hg1 : g1 < W2.heap.size := lt_of m1'
        have hg2 : g2 < W2.heap.size := lt_of m2
        have HX : Hid (∀ j, j < 4 → ∀ W, Below W2.heap.size W2 W → W.cell? ⟨g1, j, none⟩ = some (.int .i64 (nth4 r j))) := fun j hj W K => by rw [K.cell (p := ⟨g1, j, none⟩) hg1]; exact four_at m1' j hj
        have HY : Hid (∀ j, j < 4 → ∀ W, Below W2.heap.size W2 W → W.cell? ⟨g2, j, none⟩ = some (.int .i64 (nth4 s j))) := fun j hj W K => by rw [K.cell (p := ⟨g2, j, none⟩) hg2]; exact four_at m2 j hj
        clear m1' m2 hb1 hb2 hg1 hg2
        go_wp2
        go_loopw [8] (fun i wz => ∃ j : Nat, j ≤ 4 ∧ i = .int .i64 j ∧ Below W2.heap.size W2 wz ∧ Hid (∀ i, i < j → nth4 r i = nth4 s i)) (fun i _ => 4 - (intOf i).toNat)
        case atStart => exact ⟨0, by omega, rfl, Below.refl _ _, fun i hi => by omega⟩
        case round =>
          obtain ⟨j, hj, rfl, K, HE⟩ := hrel
          by_cases hj4 : j < 4
          · have x0 := HX.out j hj4 _ K
            have y0 := HY.out j hj4 _ K
            have ht : decide ((j : Int) < 4) = true := decide_eq_true (by omega)
            have HJ : Hid (j < 4) := hj4
            clear hj
            by_cases e : nth4 r j = nth4 s j
            · have HE2 : Hid (∀ i, i < j + 1 → nth4 r i = nth4 s i) := fun i hi => by
                by_cases h9 : i < j
                · exact HE.out i h9
                · obtain rfl : i = j := by omega
                  exact e
              rw [e] at x0
              generalize nth4 s j = v at *
              clear e
              go_wp2
              go_quiet (fail)
              go_wp2
              go_roundw
              case rel => exact ⟨j + 1, HJ.out, by go_num, K.trans (Pk.Drawn.below _ ⟨_, rfl⟩), HE2⟩
              case measure => have := HJ.out; simp [intOf]; omega
            · have hE : Hid (R = decide (nth4 r j < nth4 s j)) := by show _ = _; rw [HC.out]; exact cmp_ne r s _ _ j HJ.out HE.out e
              have hne : (nth4 r j == nth4 s j) = false := beq_eq_false_iff_ne.2 e
              generalize nth4 r j = v1 at *
              generalize nth4 s j = v2 at *
              clear HC
              go_wp2
              go_quiet (fail)
              go_wp2
              go_quiet (fail)
              go_wp2
              go_ret
              exact ⟨by rw [hE.out] <;> rfl, L2.trans (((K.trans (Pk.Drawn.below _ ⟨_, rfl⟩)).trans (Pk.Drawn.below _ ⟨_, rfl⟩)).mono L2.size)⟩
          · obtain rfl : j = 4 := by omega
            have hE : Hid (R = lexlt (flat (p.drop (k + 1))) (flat (q.drop (k + 1)))) := by show _ = _; rw [HC.out]; exact cmp_eq r s _ _ HE.out
            clear HC HE HX HY hj hj4
            go_wp2
            go_roundw
            case rel => exact ⟨k + 1, by omega, by omega, by go_num, L2.trans (K.mono L2.size), hE⟩
            case measure => simp [intOf]; omega
      · have hE : Hid (R = false) := by show _ = _; rw [H.out]; exact less_end p q k (Or.inr hkq)
        have hd1 : decide ((k : Int) < (p.length : Int)) = true := decide_eq_true (by omega)
        have hd2 : decide ((k : Int) < (q.length : Int)) = false := decide_eq_false (by omega)
        go_wp2
        go_ret
        exact ⟨by rw [hE.out] <;> rfl, L⟩
    · have hE : Hid (R = false) := by show _ = _; rw [H.out]; exact less_end p q k (Or.inl hkp)
      have hd1 : decide ((k : Int) < (p.length : Int)) = false := decide_eq_false (by omega)
      go_wp2
      go_ret
      exact ⟨by rw [hE.out] <;> rfl, L⟩

end Rd
end Go.Proofs.YtaplbjoghkipdaaDoor

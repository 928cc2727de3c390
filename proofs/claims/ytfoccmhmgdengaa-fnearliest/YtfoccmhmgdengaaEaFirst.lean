/- The first of some hops, of the program: a range over a function. -/
import Derived.Test.YtfoccmhmgdengaaEaGood
import Derived.Test.YtfoccmhmgdengaaEaAhd
namespace Go.Proofs.Ytfoccmhmgdengaa
namespace Rd
open Go.RowKit Go.Shelf
open Pk (new_below join_below cell_at heap_new frozen_at lt_of kept heap_old info_of)
open Em (WfI Mi)
set_option linter.unusedSimpArgs false
set_option linter.unusedVariables false
attribute [local go_sem] Oper.semAt_some

/-- No hop. -/
def hz0 : Hp := { r := { tr := 0, dy := 0, fr := 0, to := 0 }, d := 0, z := 0 }
def isZ (f : Hp) : Bool := decide (f.r.tr = 0) && (decide (f.r.dy = 0) && (decide (f.r.fr = 0) && (decide (f.r.to = 0) && (decide (f.d = 0) && decide (f.z = 0)))))
def fstZ (f h : Hp) : Hp := if isZ f || aheadR h.r f.r then h else f

theorem isZ_no {f : Hp} (h : f ≠ hz0) : isZ f = false := by
  cases e : isZ f with
  | false => rfl
  | true =>
    exfalso
    apply h
    unfold isZ at e
    simp only [Bool.and_eq_true, decide_eq_true_eq] at e
    obtain ⟨e1, e2, e3, e4, e5, e6⟩ := e
    obtain ⟨⟨a, b, c, d⟩, x, y⟩ := f
    simp only at e1 e2 e3 e4 e5 e6
    subst e1 e2 e3 e4 e5 e6
    rfl

theorem isZ_parts {f : Hp} (h : isZ f = false) : f.r.tr ≠ 0 ∨ (f.r.tr = 0 ∧ f.r.dy ≠ 0) ∨ (f.r.tr = 0 ∧ f.r.dy = 0 ∧ f.r.fr ≠ 0) ∨ (f.r.tr = 0 ∧ f.r.dy = 0 ∧ f.r.fr = 0 ∧ f.r.to ≠ 0) ∨ (f.r.tr = 0 ∧ f.r.dy = 0 ∧ f.r.fr = 0 ∧ f.r.to = 0 ∧ f.d ≠ 0) ∨ (f.r.tr = 0 ∧ f.r.dy = 0 ∧ f.r.fr = 0 ∧ f.r.to = 0 ∧ f.d = 0 ∧ f.z ≠ 0) := by
  apply Classical.byContradiction
  intro hn
  have h2 : isZ f = true := by
    unfold isZ
    simp only [Bool.and_eq_true, decide_eq_true_eq]
    omega
  rw [h] at h2
  cases h2

theorem fstZ_fold : ∀ (l : List Hp) (b : Option Hp), (∀ f, b = some f → f ≠ hz0) → (∀ h ∈ l, h ≠ hz0) → l.foldl fstZ (b.getD hz0) = (l.foldl fst1 b).getD hz0
  | [], b, _, _ => rfl
  | a :: l, b, hb, hl => by
    have ha := hl a List.mem_cons_self
    have e : fstZ (b.getD hz0) a = (fst1 b a).getD hz0 := by
      cases b with
      | none => rfl
      | some f =>
        have hf := isZ_no (hb f rfl)
        unfold fstZ fst1
        simp only [Option.getD_some, hf, Bool.false_or]
        by_cases c : aheadR a.r f.r = true <;> simp [c]
    rw [List.foldl_cons, List.foldl_cons, e]
    refine fstZ_fold l _ (fun f hf => ?_) fun h hh => hl h (List.mem_cons_of_mem _ hh)
    cases b with
    | none =>
      simp only [fst1, Option.some.injEq] at hf
      rw [← hf]; exact ha
    | some g =>
      unfold fst1 at hf
      by_cases c : aheadR a.r g.r = true
      · simp only [c, if_true, Option.some.injEq] at hf
        rw [← hf]; exact ha
      · simp only [c] at hf
        simp at hf
        rw [← hf]; exact hb g rfl

theorem fstZ_snoc (pre : List Hp) (x : Hp) : (pre ++ [x]).foldl fstZ hz0 = fstZ (pre.foldl fstZ hz0) x := by simp

abbrev put6 (w : World) (P : Nat) (h : Hp) : World := (((((w.setCell ⟨P, 0, none⟩ (.int .i64 h.r.tr)).setCell ⟨P, 1, none⟩ (.int .i64 h.r.dy)).setCell ⟨P, 2, none⟩ (.int .i64 h.r.fr)).setCell ⟨P, 3, none⟩ (.int .i64 h.r.to)).setCell ⟨P, 4, none⟩ (.int .i64 h.d)).setCell ⟨P, 5, none⟩ (.int .i64 h.z)

theorem put6_heap {w : World} {P : Nat} {f : Hp} (q : w.heap[P]? = some (hpO f)) (h : Hp) : (put6 w P h).heap[P]? = some (hpO h) := by
  unfold put6 World.setCell
  simp [Array.getElem?_modify, q]

theorem put6_other {w : World} {P k : Nat} (hk : k ≠ P) (h : Hp) : (put6 w P h).heap[k]? = w.heap[k]? := by
  unfold put6
  rw [Below.heap_setCell _ _ _ _ hk, Below.heap_setCell _ _ _ _ hk, Below.heap_setCell _ _ _ _ hk, Below.heap_setCell _ _ _ _ hk, Below.heap_setCell _ _ _ _ hk, Below.heap_setCell _ _ _ _ hk]

theorem put6_below {w : World} {P B : Nat} (hB : B ≤ P) (h : Hp) : Below B w (put6 w P h) :=
  ((((((Below.refl B w).setCell (p := ⟨P, 0, none⟩) hB _).setCell (p := ⟨P, 1, none⟩) hB _).setCell (p := ⟨P, 2, none⟩) hB _).setCell (p := ⟨P, 3, none⟩) hB _).setCell (p := ⟨P, 4, none⟩) hB _).setCell (p := ⟨P, 5, none⟩) hB _

theorem put6_keeps (w : World) (P : Nat) (h : Hp) : KeepsOthers w (put6 w P h) :=
  (((((KeepsOthers.setCell _ _ _).trans (KeepsOthers.setCell _ _ _)).trans (KeepsOthers.setCell _ _ _)).trans (KeepsOthers.setCell _ _ _)).trans (KeepsOthers.setCell _ _ _)).trans (KeepsOthers.setCell _ _ _)

theorem keeps_of {W W' : World} (L : Below W.heap.size W W') (B : Nat) : KeepsFrom B W W' := ⟨L.size, fun k o _ hk _ => (L.block k (lt_of hk)).trans hk⟩

theorem cells_abide {A B : World} {row : Option Nat} {P : Nat} {cs : Array Value} {t : TypeId} {z : Nat × Nat} (h : A.heap[P]? = some (.cells cs t z)) (hg : A.grownBy B row) (hr : ∀ r, row = some r → ∃ o : Obj, A.heap[r]? = some o ∧ o.isCells = false) : B.heap[P]? = some (.cells cs t z) := by
  rw [hg.block P (lt_of h) (fun e => by
    obtain ⟨o, h1, h2⟩ := hr P e.symm
    rw [h] at h1
    cases h1
    cases h2)]
  exact h

set_option maxRecDepth 100000 in
set_option maxHeartbeats 4000000 in
theorem firstOf_val (sb wb ub B0 mb mu nu : Nat) (H : List Hp) (es : Array MapEntry) (clock : Nat) (v0 v : Vw) (tt : Int) (L : Int → Option Int) (w : World) (hH : H.length ≤ 64000) (hB : ∀ h ∈ H, WfI h.r.to ∧ WfI h.r.fr ∧ 0 ≤ h.z ∧ h.z ≤ 200000000 ∧ 0 ≤ h.d) (hv : WfI v.s)
    (so : w.heap[sb]? = some (srO v0 tt mb)) (wo : w.heap[wb]? = some (wyO v)) (uo : w.heap[ub]? = some (.cells #[.map (some mu)] 97))
    (M : Em.Mp B0 mb (hopsAt H) es clock w) (I : Mi w mu nu L) :
    Calls Try.prog 56 #[.func (.func 73) #[] #[.pointer (some ⟨sb, 0, none⟩), .pointer (some ⟨wb, 0, none⟩), .pointer (some ⟨ub, 0, none⟩)]] w fun e w' => e = .returned (hpV ((goodL H L v).foldl fstZ hz0)) ∧ Below w.heap.size w w' := by
  refine (callsIn_wide (n := 9)).1 ?_
  have HV : Hid (∀ w0 : World, Below w.heap.size w w0 → _) := fun w0 L0 => asGood_stops 8 (by omega) sb wb ub B0 mb mu nu H es clock v0 v tt L w w0 hH hB hv so wo uo M I L0
  have x1 := heap_old (heap_new w (hpO hz0)) (hpO hz0)
  have x2 := heap_new (w.alloc (hpO hz0)) (hpO hz0)
  have e1 : (w.alloc (hpO hz0)).heap.size = w.heap.size + 1 := Array.size_push ..
  have e2 : ((w.alloc (hpO hz0)).alloc (hpO hz0)).heap.size = w.heap.size + 1 + 1 := (Array.size_push ..).trans (by rw [e1])
  have hB0 : Below w.heap.size w ((w.alloc (hpO hz0)).alloc (hpO hz0)) := join_below (new_below w _) (new_below _ _)
  rw [e1] at x2
  clear so wo uo M I hB hH hv
  refine callsIn_of_wp_marks Try.func56 rfl trivial ?_ rfl
  simp only [Try.ntmps56, List.size_toArray, List.length_cons, List.length_nil, Nat.reduceAdd, Nat.reduceSub, Array.replicate_succ, Array.replicate_zero, List.push_toArray, List.append_toArray, List.nil_append, List.cons_append]
  gi_wp2
  have hw0 : ((w.alloc (hpO hz0)).alloc (hpO hz0)) = ((w.alloc (.cells #[.int .i64 0, .int .i64 0, .int .i64 0, .int .i64 0, .int .i64 0, .int .i64 0] 76)).alloc (.cells #[.int .i64 0, .int .i64 0, .int .i64 0, .int .i64 0, .int .i64 0, .int .i64 0] 76)) := rfl
  rw [← hw0]
  clear hw0
  generalize ((w.alloc (hpO hz0)).alloc (hpO hz0)) = W0 at *
  refine wpIn_rangeFunc_ownH rfl (by omega) (gf := 73) (lb := #[.pointer (some ⟨sb, 0, none⟩), .pointer (some ⟨wb, 0, none⟩), .pointer (some ⟨ub, 0, none⟩)]) rfl trivial (enters_of Try.func73 (by kernel_rfl) rfl)
    (HV.out W0 hB0) belowK_t (belowK_b (by omega)) (Below.refl _ _) (fun _ => rfl)
    (fun pre W => W.heap[w.heap.size]? = some (hpO hz0) ∧ W.heap[w.heap.size + 1]? = some (hpO (pre.foldl fstZ hz0)) ∧ Below w.heap.size w W)
    (fun _ _ _ => False)
    (fun s A B row hs hg hr => ⟨cells_abide hs.1 hg (fun r e => (hr r e).2), cells_abide hs.2.1 hg (fun r e => (hr r e).2), hs.2.2.grown hg hs.2.2.size (fun k e => by have := (hr k e).1; omega)⟩)
    (fun _ _ _ _ _ hs _ _ => hs)
    ⟨x1, x2, hB0⟩
    (fun x a' W => ∃ Bx, W.heap[Bx]? = some (hpO x) ∧ a' = { tmps := #[.func (.func 73) #[] #[.pointer (some ⟨sb, 0, none⟩), .pointer (some ⟨wb, 0, none⟩), .pointer (some ⟨ub, 0, none⟩)], undef, .pointer (some ⟨w.heap.size, 0, none⟩), .pointer (some ⟨w.heap.size + 1, 0, none⟩), .pointer (some ⟨Bx, 0, none⟩), .func (.func 73) #[] #[.pointer (some ⟨sb, 0, none⟩), .pointer (some ⟨wb, 0, none⟩), .pointer (some ⟨ub, 0, none⟩)], hpV x, undef, undef, undef, undef, undef, undef, undef, undef, undef, undef, undef, undef], defers := [] })
    (fun x a' _ X Y row hs hg hr => by obtain ⟨Bx, h2, h3⟩ := hs; exact ⟨Bx, cells_abide h2 hg (fun r e => (hr r e).2), h3⟩)
    ?assign ?body ?done ?stop
  case assign =>
    rintro l pre x W K ⟨h1, h2, h3⟩ hK
    gi_wp2
    exact hK _ _ ((KeepsOthers.alloc _ _).from _) ((Below.refl _ W).alloc h3.size _) ⟨heap_old h1 _, heap_old h2 _, h3.alloc h3.size _⟩ ⟨W.heap.size, heap_new W _, rfl⟩
  case body =>
    rintro l pre x a' W hl - ⟨h1, h2, h3⟩ ⟨Bx, hx, rfl⟩ hlt
    have HSN : Hid ((pre ++ [x]).foldl fstZ hz0 = fstZ (pre.foldl fstZ hz0) x) := fstZ_snoc pre x
    generalize pre.foldl fstZ hz0 = f at *
    clear HV
    have HK : Hid (W.heap[w.heap.size]? = some (hpO hz0) ∧ Below w.heap.size w W) := ⟨h1, h3⟩
    clear h1 h3
    cases hZ : isZ f
    · have HSN2 : Hid ((pre ++ [x]).foldl fstZ hz0 = if aheadR x.r f.r then x else f) := by
        show _ = _
        rw [HSN.out]
        unfold fstZ
        rw [hZ, Bool.false_or]
      have HAH : Hid (∀ W : World, _) := fun W => isAhead_val x.r f.r W
      have HZ : Hid (isZ f = false) := hZ
      have H2 : Hid (_) := h2
      have HX : Hid (_) := hx
      have f0 : W.cell? ⟨w.heap.size + 1, 0, none⟩ = some (.int .i64 f.r.tr) := cell_at h2 0
      have f1 : W.cell? ⟨w.heap.size + 1, 1, none⟩ = some (.int .i64 f.r.dy) := cell_at h2 1
      have f2 : W.cell? ⟨w.heap.size + 1, 2, none⟩ = some (.int .i64 f.r.fr) := cell_at h2 2
      have f3 : W.cell? ⟨w.heap.size + 1, 3, none⟩ = some (.int .i64 f.r.to) := cell_at h2 3
      have f4 : W.cell? ⟨w.heap.size + 1, 4, none⟩ = some (.int .i64 f.d) := cell_at h2 4
      have f5 : W.cell? ⟨w.heap.size + 1, 5, none⟩ = some (.int .i64 f.z) := cell_at h2 5
      have c0 : W.cell? ⟨Bx, 0, none⟩ = some (.int .i64 x.r.tr) := cell_at hx 0
      have c1 : W.cell? ⟨Bx, 1, none⟩ = some (.int .i64 x.r.dy) := cell_at hx 1
      have c2 : W.cell? ⟨Bx, 2, none⟩ = some (.int .i64 x.r.fr) := cell_at hx 2
      have c3 : W.cell? ⟨Bx, 3, none⟩ = some (.int .i64 x.r.to) := cell_at hx 3
      have c4 : W.cell? ⟨Bx, 4, none⟩ = some (.int .i64 x.d) := cell_at hx 4
      have c5 : W.cell? ⟨Bx, 5, none⟩ = some (.int .i64 x.z) := cell_at hx 5
      have hq : f.r.tr ≠ 0 ∨ (f.r.tr = 0 ∧ f.r.dy ≠ 0) ∨ (f.r.tr = 0 ∧ f.r.dy = 0 ∧ f.r.fr ≠ 0) ∨ (f.r.tr = 0 ∧ f.r.dy = 0 ∧ f.r.fr = 0 ∧ f.r.to ≠ 0) ∨ (f.r.tr = 0 ∧ f.r.dy = 0 ∧ f.r.fr = 0 ∧ f.r.to = 0 ∧ f.d ≠ 0) ∨ (f.r.tr = 0 ∧ f.r.dy = 0 ∧ f.r.fr = 0 ∧ f.r.to = 0 ∧ f.d = 0 ∧ f.z ≠ 0) := isZ_parts hZ
      clear h2 hx hZ HZ HSN
      rcases hq with q0 | ⟨q0, q1⟩ | ⟨q0, q1, q2⟩ | ⟨q0, q1, q2, q3⟩ | ⟨q0, q1, q2, q3, q4⟩ | ⟨q0, q1, q2, q3, q4, q5⟩
      all_goals
        first
        | (try simp only [q0] at HAH
           try simp only [q1] at HAH
           try simp only [q2] at HAH
           try simp only [q3] at HAH
           gi_wp2_with fail
           refine ⟨trivial, ?_⟩
           refine (CallsIn.inRound l (callsIn_wide.2 (HAH.out _))).mono ?_
           rintro e w5 ⟨rfl, L5⟩
           have k1 := kept L5 (lt_of HK.out.1) HK.out.1
           have k2 := kept L5 (lt_of H2.out) H2.out
           have kx := kept L5 (lt_of HX.out) HX.out
           have HL5 : Hid (KeepsFrom W0.heap.size W w5 ∧ Below w.heap.size W w5 ∧ Below w.heap.size w w5) := ⟨keeps_of L5 _, L5.mono HK.out.2.size, HK.out.2.trans (L5.mono HK.out.2.size)⟩
           clear f0 f1 f2 f3 f4 f5 c0 c1 c2 c3 c4 c5 L5 HAH H2 HX
           cases hA : aheadR x.r f.r
           · rw [hA] at HSN2
             clear hA
             gi_wp2
             exact ⟨HL5.out.1, HL5.out.2.1, k1, by rw [HSN2.out]; exact k2, HL5.out.2.2⟩
           · rw [hA] at HSN2
             clear hA
             have c0 : w5.cell? ⟨Bx, 0, none⟩ = some (.int .i64 x.r.tr) := cell_at kx 0
             have c1 : w5.cell? ⟨Bx, 1, none⟩ = some (.int .i64 x.r.dy) := cell_at kx 1
             have c2 : w5.cell? ⟨Bx, 2, none⟩ = some (.int .i64 x.r.fr) := cell_at kx 2
             have c3 : w5.cell? ⟨Bx, 3, none⟩ = some (.int .i64 x.r.to) := cell_at kx 3
             have c4 : w5.cell? ⟨Bx, 4, none⟩ = some (.int .i64 x.d) := cell_at kx 4
             have c5 : w5.cell? ⟨Bx, 5, none⟩ = some (.int .i64 x.z) := cell_at kx 5
             have g0 : w5.frozen? ⟨w.heap.size + 1, 0, none⟩ = false := frozen_at k2 0
             have g1 : w5.frozen? ⟨w.heap.size + 1, 1, none⟩ = false := frozen_at k2 1
             have g2 : w5.frozen? ⟨w.heap.size + 1, 2, none⟩ = false := frozen_at k2 2
             have g3 : w5.frozen? ⟨w.heap.size + 1, 3, none⟩ = false := frozen_at k2 3
             have g4 : w5.frozen? ⟨w.heap.size + 1, 4, none⟩ = false := frozen_at k2 4
             have g5 : w5.frozen? ⟨w.heap.size + 1, 5, none⟩ = false := frozen_at k2 5
             have f0 : w5.cell? ⟨w.heap.size + 1, 0, none⟩ = some (.int .i64 f.r.tr) := cell_at k2 0
             have f1 : w5.cell? ⟨w.heap.size + 1, 1, none⟩ = some (.int .i64 f.r.dy) := cell_at k2 1
             have f2 : w5.cell? ⟨w.heap.size + 1, 2, none⟩ = some (.int .i64 f.r.fr) := cell_at k2 2
             have f3 : w5.cell? ⟨w.heap.size + 1, 3, none⟩ = some (.int .i64 f.r.to) := cell_at k2 3
             have f4 : w5.cell? ⟨w.heap.size + 1, 4, none⟩ = some (.int .i64 f.d) := cell_at k2 4
             have f5 : w5.cell? ⟨w.heap.size + 1, 5, none⟩ = some (.int .i64 f.z) := cell_at k2 5
             have HK2 : Hid (_) := k2
             have HK1 : Hid (_) := k1
             clear k1 k2 kx
             gi_wp2
             exact ⟨HL5.out.1.trans ((put6_keeps w5 (w.heap.size + 1) x).from _), HL5.out.2.1.trans (put6_below (by omega) x), (put6_other (by omega) x).trans HK1.out, by rw [HSN2.out]; exact put6_heap HK2.out x, HL5.out.2.2.trans (put6_below (by omega) x)⟩)
    · have ef : f = hz0 := by
        apply Classical.byContradiction
        intro h
        rw [isZ_no h] at hZ
        cases hZ
      subst ef
      have HSN2 : Hid ((pre ++ [x]).foldl fstZ hz0 = x) := by
        show _ = _
        rw [HSN.out]
        rfl
      have H2 : Hid (_) := h2
      have f0 : W.cell? ⟨w.heap.size + 1, 0, none⟩ = some (.int .i64 0) := cell_at h2 0
      have f1 : W.cell? ⟨w.heap.size + 1, 1, none⟩ = some (.int .i64 0) := cell_at h2 1
      have f2 : W.cell? ⟨w.heap.size + 1, 2, none⟩ = some (.int .i64 0) := cell_at h2 2
      have f3 : W.cell? ⟨w.heap.size + 1, 3, none⟩ = some (.int .i64 0) := cell_at h2 3
      have f4 : W.cell? ⟨w.heap.size + 1, 4, none⟩ = some (.int .i64 0) := cell_at h2 4
      have f5 : W.cell? ⟨w.heap.size + 1, 5, none⟩ = some (.int .i64 0) := cell_at h2 5
      have c0 : W.cell? ⟨Bx, 0, none⟩ = some (.int .i64 x.r.tr) := cell_at hx 0
      have c1 : W.cell? ⟨Bx, 1, none⟩ = some (.int .i64 x.r.dy) := cell_at hx 1
      have c2 : W.cell? ⟨Bx, 2, none⟩ = some (.int .i64 x.r.fr) := cell_at hx 2
      have c3 : W.cell? ⟨Bx, 3, none⟩ = some (.int .i64 x.r.to) := cell_at hx 3
      have c4 : W.cell? ⟨Bx, 4, none⟩ = some (.int .i64 x.d) := cell_at hx 4
      have c5 : W.cell? ⟨Bx, 5, none⟩ = some (.int .i64 x.z) := cell_at hx 5
      have g0 : W.frozen? ⟨w.heap.size + 1, 0, none⟩ = false := frozen_at h2 0
      have g1 : W.frozen? ⟨w.heap.size + 1, 1, none⟩ = false := frozen_at h2 1
      have g2 : W.frozen? ⟨w.heap.size + 1, 2, none⟩ = false := frozen_at h2 2
      have g3 : W.frozen? ⟨w.heap.size + 1, 3, none⟩ = false := frozen_at h2 3
      have g4 : W.frozen? ⟨w.heap.size + 1, 4, none⟩ = false := frozen_at h2 4
      have g5 : W.frozen? ⟨w.heap.size + 1, 5, none⟩ = false := frozen_at h2 5
      clear h2 hx hZ
      gi_wp2
      refine ⟨trivial, ?_⟩
      gi_wp2
      exact ⟨(put6_keeps W (w.heap.size + 1) x).from _, put6_below (by omega) x, (put6_other (by omega) x).trans HK.out.1, by rw [HSN2.out]; exact put6_heap H2.out x, HK.out.2.trans (put6_below (by omega) x)⟩
  case done =>
    rintro D ys W hD rfl ⟨h1, h2, h3⟩ hK
    obtain ⟨f, hf⟩ : ∃ f, (goodL H L v).foldl fstZ hz0 = f := ⟨_, rfl⟩
    rw [hf] at h2
    have HFF : Hid (_) := hf
    clear hf
    have f0 : W.cell? ⟨w.heap.size + 1, 0, none⟩ = some (.int .i64 f.r.tr) := cell_at h2 0
    have f1 : W.cell? ⟨w.heap.size + 1, 1, none⟩ = some (.int .i64 f.r.dy) := cell_at h2 1
    have f2 : W.cell? ⟨w.heap.size + 1, 2, none⟩ = some (.int .i64 f.r.fr) := cell_at h2 2
    have f3 : W.cell? ⟨w.heap.size + 1, 3, none⟩ = some (.int .i64 f.r.to) := cell_at h2 3
    have f4 : W.cell? ⟨w.heap.size + 1, 4, none⟩ = some (.int .i64 f.d) := cell_at h2 4
    have f5 : W.cell? ⟨w.heap.size + 1, 5, none⟩ = some (.int .i64 f.z) := cell_at h2 5
    have r0 : W.cell? ⟨w.heap.size, 0, none⟩ = some (.int .i64 0) := cell_at h1 0
    have g0 : W.frozen? ⟨w.heap.size, 0, none⟩ = false := frozen_at h1 0
    have r1 : W.cell? ⟨w.heap.size, 1, none⟩ = some (.int .i64 0) := cell_at h1 1
    have g1 : W.frozen? ⟨w.heap.size, 1, none⟩ = false := frozen_at h1 1
    have r2 : W.cell? ⟨w.heap.size, 2, none⟩ = some (.int .i64 0) := cell_at h1 2
    have g2 : W.frozen? ⟨w.heap.size, 2, none⟩ = false := frozen_at h1 2
    have r3 : W.cell? ⟨w.heap.size, 3, none⟩ = some (.int .i64 0) := cell_at h1 3
    have g3 : W.frozen? ⟨w.heap.size, 3, none⟩ = false := frozen_at h1 3
    have r4 : W.cell? ⟨w.heap.size, 4, none⟩ = some (.int .i64 0) := cell_at h1 4
    have g4 : W.frozen? ⟨w.heap.size, 4, none⟩ = false := frozen_at h1 4
    have r5 : W.cell? ⟨w.heap.size, 5, none⟩ = some (.int .i64 0) := cell_at h1 5
    have g5 : W.frozen? ⟨w.heap.size, 5, none⟩ = false := frozen_at h1 5
    have HR : Hid ((put6 W w.heap.size f).heap[w.heap.size]? = some (hpO f)) := put6_heap h1 f
    have HKD : Hid (∀ k, k ≠ w.heap.size → (put6 W w.heap.size f).heap[k]? = W.heap[k]?) := fun k hk => put6_other hk f
    have HB9 : Hid (Below w.heap.size w (put6 W w.heap.size f)) := h3.trans (put6_below (Nat.le_refl _) f)
    have hDn : D ≠ w.heap.size := by omega
    clear h1 h2 h3 HV x1 x2
    have hK9 : (put6 W w.heap.size f).heap[D]? = some (.deferred (some [])) := (HKD.out D hDn).trans hK
    have HU : Hid (((put6 W w.heap.size f).putObj D (.deferred none)).heap[w.heap.size]? = some (hpO f)) := ((grownBy_putObj' (put6 W w.heap.size f) D (.deferred none)).block w.heap.size (lt_of HR.out) (by simp; omega)).trans HR.out
    gi_wp2
    refine ⟨by simp, .inl ⟨_, _, rfl, run_takeDeferred hK9, ?_⟩⟩
    have u := HU.out
    have HBE : Hid (Below w.heap.size w ((put6 W w.heap.size f).putObj D (.deferred none))) := HB9.out.trans (belowK_b (w := w) (Nat.le_refl _) _ D _ _ (by omega) hK9 rfl rfl)
    change ∃ _, _
    have HG : Hid (_) := HBE
    generalize (put6 W w.heap.size f).putObj D (.deferred none) = WE at *
    have u0 := cell_at u 0
    have u1 := cell_at u 1
    have u2 := cell_at u 2
    have u3 := cell_at u 3
    have u4 := cell_at u 4
    have u5 := cell_at u 5
    simp at u0 u1 u2 u3 u4 u5
    exact ⟨hpV f, by simp [results, Try.results56, go_sem, u0, u1, u2, u3, u4, u5], by rw [HFF.out], HBE.out⟩
  case stop =>
    rintro D c pre W _ _ h _
    exact h.elim

end Rd
end Go.Proofs.Ytfoccmhmgdengaa

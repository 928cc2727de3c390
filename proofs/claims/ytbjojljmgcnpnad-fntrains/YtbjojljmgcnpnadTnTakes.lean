/- Contracts of Takes, of the program and of its model. -/
import Derived.Test.YtbjojljmgcnpnadTnCut
namespace Go.Proofs.Ytbjojljmgcnpnad
namespace Tn
open Go.ChangeShapes Go.WideShapes Go.ChangeAt Go.RowKit
open Pk (new_below join_below cell_at heap_new frozen_at lt_of kept heap_old ret_int)
set_option linter.unusedSimpArgs false
set_option linter.unusedVariables false

theorem ok_step {t : Hd} {l : List St} (h : okB t l = true) (k : Nat) (hk : k < l.length) : stepB l k = true := by
  unfold okB stopsB at h
  simp only [Bool.and_eq_true] at h
  have h1 := h.2.2
  unfold stepsFrom at h1
  rw [List.drop_zero, List.all_eq_true] at h1
  exact h1 k (List.mem_range.2 hk)

theorem ok_stop {t : Hd} {l : List St} (h : okB t l = true) (k : Nat) (hk : k < l.length) : (1 ≤ l[k].st ∧ l[k].st ≤ 9999) ∧ (0 ≤ l[k].ar ∧ l[k].ar ≤ 4000) ∧ l[k].ar ≤ l[k].dp ∧ l[k].dp ≤ 4000 := by
  have h1 := ok_step h k hk
  rw [stepB_at l k hk] at h1
  unfold stB at h1
  simp only [Bool.and_eq_true] at h1
  have a := inB_yes h1.1.1.1.1
  have b := inB_yes h1.1.1.1.2
  have c := inB_yes h1.1.1.2
  exact ⟨a, b, c⟩

theorem ok_len {t : Hd} {l : List St} (h : okB t l = true) : 2 ≤ l.length ∧ l.length ≤ 20 := by
  unfold okB stopsB at h
  simp only [Bool.and_eq_true] at h
  have := inB_yes h.2.1
  omega

theorem cut_ok {t : Hd} {l : List St} {x y : Int} (h : cutB t l x y = true) : okB t l = true := by
  unfold cutB at h
  simp only [Bool.and_eq_true] at h
  exact h.1

/-- What a cut tells. -/
theorem cut_is {t : Hd} {l : List St} {x y : Int} (h : cutB t l x y = true) : ∃ i j : Nat, ∃ (hi : i < l.length) (hj : j < l.length), i < j ∧ cutA t l x y = i ∧ cutZ t l x y = j ∧ idx l x 0 = i ∧ idx l y 0 = j ∧ l[i].st = x ∧ l[j].st = y := by
  obtain ⟨e1, e2⟩ := cut_yes h
  unfold cutB at h
  simp only [Bool.and_eq_true, decide_eq_true_eq] at h
  rcases idx_is l x with ⟨h1, -⟩ | ⟨i, hi, h1, h2, -⟩
  · exact absurd h1 h.2.1
  · rcases idx_is l y with ⟨h3, -⟩ | ⟨j, hj, h3, h4, -⟩
    · omega
    · exact ⟨i, j, hi, hj, by omega, by rw [e1, h1], by rw [e2, h3], h1, h3, h2, h4⟩

def takesV (t : Hd) (l : List St) (x y : Int) : Int := if cutB t l x y = true then (l.getD (cutZ t l x y).toNat z0).ar - (l.getD (cutA t l x y).toNat z0).dp else -1

theorem takes_yes {t : Hd} {l : List St} {x y : Int} {i j : Nat} (hi : i < l.length) (hj : j < l.length) (h : cutB t l x y = true) (e1 : cutA t l x y = i) (e2 : cutZ t l x y = j) : takesV t l x y = l[j].ar - l[i].dp := by
  unfold takesV
  rw [if_pos h, e1, e2, Int.toNat_natCast, Int.toNat_natCast, getD_at l j hj, getD_at l i hi]

theorem takes_no {t : Hd} {l : List St} {x y : Int} (h : cutB t l x y = false) : takesV t l x y = -1 := by
  unfold takesV
  rw [h]
  rfl

set_option maxHeartbeats 2000000 in
theorem implTakes_val (t : Hd) (x y : Int) (a : Option Addr) (l : List St) (cap : Nat) (w : World) (hl : l.length ≤ maxLen) (I : Stops w a l) :
    Calls Try.prog 12 #[trV t a l.length cap, .int .i64 x, .int .i64 y] w fun e w' => e = .returned (.int .i64 (takesV t l x y)) ∧ Below w.heap.size w w' := by
  have N := new_below w (trB t a l.length cap 26)
  have m0 := heap_new w (trB t a l.length cap 26)
  have HC : Hid (∀ w, _ → _) := fun w h => implCut_val t x y a l cap w hl h
  have I0 := I.on N
  unfold maxLen at hl
  cases hB : cutB t l x y
  · rw [takes_no hB]
    unfold cutV at HC
    rw [hB] at HC
    generalize cutA t l x y = A at *
    generalize cutZ t l x y = Z at *
    clear hB
    go_enter Try.func12, Try.ntmps12
    go_wp2_with fail
    refine (HC.out _ I0).mono ?_
    rintro e w1 ⟨rfl, L1⟩
    go_wp2
    go_ret
    exact ⟨rfl, join_below N L1⟩
  · obtain ⟨i, j, hi, hj, hij, e1, e2, -⟩ := cut_is hB
    rw [takes_yes hi hj hB e1 e2]
    have oi := ok_stop (cut_ok hB) i hi
    have oj := ok_stop (cut_ok hB) j hj
    unfold cutV at HC
    rw [hB, e1, e2] at HC
    clear hB e1 e2
    have HI : Hid (∀ w', Below w.heap.size w w' → ∃ b o, a = some ⟨b, o, none⟩ ∧ w'.cell? ⟨b, o + i * 3 + 2, none⟩ = some (.int .i64 l[i].dp) ∧ w'.cell? ⟨b, o + j * 3 + 1, none⟩ = some (.int .i64 l[j].ar)) := by
      intro w' L
      obtain ⟨b, o, rfl, -, -, -, p2⟩ := (I.on L).at i hi
      obtain ⟨b', o', e, -, -, q1, -⟩ := (I.on L).at j hj
      simp only [Option.some.injEq, Addr.mk.injEq, and_true] at e
      obtain ⟨rfl, rfl⟩ := e
      exact ⟨b, o, rfl, p2, q1⟩
    generalize l[i] = si at *
    generalize l[j] = sj at *
    go_enter Try.func12, Try.ntmps12
    go_wp2_with fail
    refine (HC.out _ I0).mono ?_
    rintro e w1 ⟨rfl, L1⟩
    have L2 := join_below N L1
    have m1 := kept L1 (lt_of m0) m0
    obtain ⟨b, o, rfl, p2, q1⟩ := HI.out _ L2
    have c4 : w1.cell? ⟨w.heap.size, 4, none⟩ = some (.slice (some ⟨b, o, none⟩) l.length cap) := cell_at m1 4
    have hi1 : (i : Int) < (l.length : Int) := by omega
    have hj1 : (j : Int) < (l.length : Int) := by omega
    go_wp2
    go_quiet (fail)
    go_wp2
    go_ret
    exact ⟨rfl, L2.trans (Pk.Drawn.below _ ⟨_, rfl⟩)⟩

set_option maxHeartbeats 2000000 in
theorem specTakes_val (t : Hd) (x y : Int) (a : Option Addr) (l : List St) (cap : Nat) (w : World) (hl : l.length ≤ maxLen) (I : Stops w a l) :
    Calls Try.prog 13 #[trV t a l.length cap, .int .i64 x, .int .i64 y] w fun e w' => e = .returned (.int .i64 (takesV t l x y)) ∧ Below w.heap.size w w' := by
  have N := new_below w (trB t a l.length cap 26)
  have m0 := heap_new w (trB t a l.length cap 26)
  have HC : Hid (∀ w, _ → _) := fun w h => specCut_val t x y a l cap w hl h
  have I0 := I.on N
  unfold maxLen at hl
  cases hB : cutB t l x y
  · rw [takes_no hB]
    unfold cutV at HC
    rw [hB] at HC
    generalize cutA t l x y = A at *
    generalize cutZ t l x y = Z at *
    clear hB
    go_enter Try.func13, Try.ntmps13
    go_wp2_with fail
    refine (HC.out _ I0).mono ?_
    rintro e w1 ⟨rfl, L1⟩
    go_wp2
    go_ret
    exact ⟨rfl, join_below N L1⟩
  · obtain ⟨i, j, hi, hj, hij, e1, e2, -⟩ := cut_is hB
    rw [takes_yes hi hj hB e1 e2]
    have oi := ok_stop (cut_ok hB) i hi
    have oj := ok_stop (cut_ok hB) j hj
    unfold cutV at HC
    rw [hB, e1, e2] at HC
    clear hB e1 e2
    have HI : Hid (∀ w', Below w.heap.size w w' → ∃ b o, a = some ⟨b, o, none⟩ ∧ w'.cell? ⟨b, o + i * 3 + 2, none⟩ = some (.int .i64 l[i].dp) ∧ w'.cell? ⟨b, o + j * 3 + 1, none⟩ = some (.int .i64 l[j].ar)) := by
      intro w' L
      obtain ⟨b, o, rfl, -, -, -, p2⟩ := (I.on L).at i hi
      obtain ⟨b', o', e, -, -, q1, -⟩ := (I.on L).at j hj
      simp only [Option.some.injEq, Addr.mk.injEq, and_true] at e
      obtain ⟨rfl, rfl⟩ := e
      exact ⟨b, o, rfl, p2, q1⟩
    generalize l[i] = si at *
    generalize l[j] = sj at *
    go_enter Try.func13, Try.ntmps13
    go_wp2_with fail
    refine (HC.out _ I0).mono ?_
    rintro e w1 ⟨rfl, L1⟩
    have L2 := join_below N L1
    have m1 := kept L1 (lt_of m0) m0
    obtain ⟨b, o, rfl, p2, q1⟩ := HI.out _ L2
    have c4 : w1.cell? ⟨w.heap.size, 4, none⟩ = some (.slice (some ⟨b, o, none⟩) l.length cap) := cell_at m1 4
    have hi1 : (i : Int) < (l.length : Int) := by omega
    have hj1 : (j : Int) < (l.length : Int) := by omega
    go_wp2
    go_quiet (fail)
    go_wp2
    go_ret
    exact ⟨rfl, L2.trans (Pk.Drawn.below _ ⟨_, rfl⟩)⟩

end Tn
end Go.Proofs.Ytbjojljmgcnpnad

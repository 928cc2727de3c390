/- Contracts of the laws' own helpers over rows of pieces that a function has made: one marked, one held against its marks. -/
import Derived.Test.YtaocindfopipnajPkPiecesI
namespace Go.Proofs.Ytaocindfopipnaj
namespace Pk
open Go.ChangeShapes Go.WideShapes Go.ChangeAt Go.RowKit
open Math (Pc)
set_option linter.unusedSimpArgs false
set_option linter.unusedVariables false

theorem own_setn {w : World} {base e g n cap i size : Nat} {xs : List Value} (h : w.ownsRow base e size (.slice (some ⟨g, 0, none⟩) n cap) n xs) (u : Value) : (w.setCell ⟨g, i, none⟩ u).ownsRow base e size (.slice (some ⟨g, 0, none⟩) n cap) n (xs.set i u) := by
  obtain ⟨hl, h2⟩ := h
  rcases h2 with ⟨hv, -⟩ | ⟨g', cap', cur, hv, hg, hh, h1, h3, h4, h5⟩
  · cases hv
  · simp only [Value.slice.injEq, Option.some.injEq, Addr.mk.injEq] at hv
    obtain ⟨⟨rfl, -⟩, -, rfl⟩ := hv
    refine ⟨by rw [List.length_set]; exact hl, Or.inr ⟨g, cap, _, rfl, hg, heap_set hh u, h1, h3, by rw [Array.size_setIfInBounds]; exact h4, ?_⟩⟩
    rw [Array.toList_setIfInBounds, ← h5, List.take_set]

theorem pcells_cons (p : Pc) (l : List Pc) : pcells (p :: l) = .int .i64 p.x :: .int .i64 p.n :: .int .i64 p.d :: pcells l := by simp [pcells]

theorem pcells_at (l : List Pc) (k : Nat) (p : Pc) (h : l[k]? = some p) : (pcells l)[k * 3]? = some (.int .i64 p.x) ∧ (pcells l)[k * 3 + 1]? = some (.int .i64 p.n) ∧ (pcells l)[k * 3 + 2]? = some (.int .i64 p.d) := by
  induction l generalizing k with
  | nil => simp at h
  | cons q l ih =>
    rw [pcells_cons]
    cases k with
    | zero =>
      simp at h
      subst h
      exact ⟨rfl, rfl, rfl⟩
    | succ k =>
      have := ih k (by simpa using h)
      rw [show (k + 1) * 3 = k * 3 + 3 by omega]
      exact this

theorem pcells_set (l : List Pc) (k : Nat) (p : Pc) (h : k < l.length) : (((pcells l).set (k * 3) (.int .i64 p.x)).set (k * 3 + 1) (.int .i64 p.n)).set (k * 3 + 2) (.int .i64 p.d) = pcells (l.set k p) := by
  induction l generalizing k with
  | nil => simp at h
  | cons q l ih =>
    cases k with
    | zero => simp [pcells_cons]
    | succ k =>
      rw [pcells_cons, List.set_cons_succ, pcells_cons, ← ih k (by simpa using h), show (k + 1) * 3 = k * 3 + 3 by omega]
      rfl

/-- The cells of a row of pieces. -/
theorem own_pc {w : World} {base : Nat} {v : Value} {n : Nat} {l : List Pc} (h : w.ownsRow base 38 3 v n (pcells l)) (k : Nat) (hk : k < n) (p : Pc) (hp : l[k]? = some p) :
    ∃ g cap, v = .slice (some ⟨g, 0, none⟩) n cap ∧ base ≤ g ∧ g < w.heap.size ∧ w.cell? ⟨g, k * 3, none⟩ = some (.int .i64 p.x) ∧ w.cell? ⟨g, k * 3 + 1, none⟩ = some (.int .i64 p.n) ∧ w.cell? ⟨g, k * 3 + 2, none⟩ = some (.int .i64 p.d) ∧ ∀ o, w.frozen? ⟨g, o, none⟩ = false := by
  obtain ⟨hl, h2⟩ := h
  rcases h2 with ⟨hv, h0⟩ | ⟨g, cap, cur, hv, hg, hh, h1, h3, h4, h5⟩
  · omega
  · obtain ⟨a0, a1, a2⟩ := pcells_at l k p hp
    have hc : ∀ o, o < n * 3 → w.cell? ⟨g, o, none⟩ = (pcells l)[o]? := by
      intro o ho
      rw [cell_at hh, ← h5, List.getElem?_take, if_pos ho, Array.getElem?_toList]
    exact ⟨g, cap, hv, hg, lt_of hh, by rw [hc _ (by omega)]; exact a0, by rw [hc _ (by omega)]; exact a1, by rw [hc _ (by omega)]; exact a2, fun o => frozen_at hh o⟩

theorem pcs_own {w : World} {base : Nat} {a : Option Addr} {cap : Nat} {l : List Pc} (h : w.ownsRow base 38 3 (.slice a l.length cap) l.length (pcells l)) : Pcs w a l := by
  by_cases h0 : l = []
  · exact Or.inl h0
  · have hpos : 0 < l.length := List.length_pos_iff.2 h0
    obtain ⟨g, cp, he, -, hg, -⟩ := own_pc h 0 hpos l[0] (List.getElem?_eq_getElem hpos)
    simp only [Value.slice.injEq] at he
    obtain ⟨rfl, -, -⟩ := he
    refine Or.inr ⟨g, 0, rfl, hg, fun i hi => ?_⟩
    obtain ⟨g', cp', he', -, -, c0, c1, c2, -⟩ := own_pc h i hi l[i] (List.getElem?_eq_getElem hi)
    simp only [Value.slice.injEq, Option.some.injEq, Addr.mk.injEq] at he'
    obtain ⟨⟨rfl, -⟩, -⟩ := he'
    rw [Nat.zero_add]
    exact ⟨c0, c1, c2⟩

theorem pcsFrom_length (s : ByteArray) (f i : Nat) : (Math.pcsFrom s f i).length ≤ f := by
  induction f generalizing i with
  | zero => simp [Math.pcsFrom]
  | succ f ih =>
    unfold Math.pcsFrom
    split
    · rw [List.length_cons]
      have := ih (i + Math.stepAt s i)
      omega
    · simp

theorem pieces_length (s : ByteArray) : (Math.pieces s).length ≤ 3000 := by
  unfold Math.pieces
  split
  · have := pcsFrom_length s s.size 0
    omega
  · simp

theorem own_keep' {w w1 : World} {B base e size : Nat} {v : Value} {n : Nat} {xs : List Value} (h : w.ownsRow base e size v n xs) (L : Below B w w1) (hlt : ∀ k, v.ownBlock = some k → k < B) : w1.ownsRow base e size v n xs := by
  obtain ⟨h1, h2⟩ := h
  refine ⟨h1, ?_⟩
  rcases h2 with h2 | ⟨g, cap, cur, hv, hg, hh, hr⟩
  · exact Or.inl h2
  · exact Or.inr ⟨g, cap, cur, hv, hg, kept L (hlt g (by rw [hv]; rfl)) hh, hr⟩

/-- A mark. -/
def mk (i : Nat) : Pc := ⟨(i : Int) * 3 + 1, (i : Int) * 3 + 2, (i : Int) * 3 + 3⟩

/-- A row of which the first k are marked. -/
def markedP (l : List Pc) (k : Nat) : List Pc := (List.range k).map mk ++ l.drop k

theorem markedP_set (l : List Pc) (k : Nat) (h : k < l.length) : (markedP l k).set k (mk k) = markedP l (k + 1) := by
  unfold markedP
  rw [List.set_append_right _ _ (by simp)]
  simp only [List.length_map, List.length_range, Nat.sub_self]
  rw [List.drop_eq_getElem_cons h, List.set_cons_zero, List.range_succ, List.map_append]
  simp

theorem markedP_length (l : List Pc) (k : Nat) (h : k ≤ l.length) : (markedP l k).length = l.length := by
  unfold markedP
  simp
  omega

theorem markedP_at (l : List Pc) (k : Nat) (h : k < l.length) : (markedP l l.length)[k]? = some (mk k) := by
  unfold markedP
  rw [List.getElem?_append_left (by simp; exact h)]
  simp [h]

set_option maxHeartbeats 1000000 in
theorem markPcs_val (B : Nat) (v : Value) (l : List Pc) (n : Nat) (w : World) (hn : n ≤ 1048576) (hl : l.length = n) (I : w.ownsRow B 38 3 v n (pcells l)) :
    Calls Try.prog 10 #[v, .int .i64 1] w fun e w' => e = .returned (.int .i64 ((n : Int) * 3 + 1)) ∧ w'.ownsRow B 38 3 v n (pcells (markedP l n)) ∧ Below B w w' := by
  obtain ⟨va, vc, rfl, -⟩ := own_form I
  go_enter Try.func10, Try.ntmps10
  go_wp2
  go_loopw [1, 5] (fun t i wr => ∃ (k : Nat), k ≤ n ∧ i = .int .i64 k ∧ t = .int .i64 ((k : Int) * 3 + 1) ∧ wr.ownsRow B 38 3 (.slice va n vc) n (pcells (markedP l k)) ∧ Below B w wr) (fun _ i _ => n - (intOf i).toNat)
  case atStart => exact ⟨0, by omega, rfl, rfl, by rw [show markedP l 0 = l from rfl]; exact I, Below.refl _ _⟩
  case round =>
    obtain ⟨k, hk, rfl, rfl, hown, L⟩ := hrel
    by_cases hkn : k < n
    · have hml := markedP_length l k (by omega)
      obtain ⟨g, cp, he, hg1, hg2, c0, c1, c2, hf⟩ := own_pc hown k hkn _ (List.getElem?_eq_getElem (l := markedP l k) (i := k) (by omega))
      simp only [Value.slice.injEq] at he
      obtain ⟨rfl, -, -⟩ := he
      have f0 := hf (k * 3)
      have f1 := hf (k * 3 + 1)
      have f2 := hf (k * 3 + 2)
      have hs := own_setn (i := k * 3 + 2) (own_setn (i := k * 3 + 1) (own_setn (i := k * 3) hown (.int .i64 ((k : Int) * 3 + 1))) (.int .i64 ((k : Int) * 3 + 2))) (.int .i64 ((k : Int) * 3 + 3))
      have hps := pcells_set (markedP l k) k (mk k) (by omega)
      rw [markedP_set l k (by omega)] at hps
      rw [show (mk k).x = (k : Int) * 3 + 1 from rfl, show (mk k).n = (k : Int) * 3 + 2 from rfl, show (mk k).d = (k : Int) * 3 + 3 from rfl] at hps
      rw [hps] at hs
      have HS : Hid (_) := hs
      have L3 := ((L.setCell (p := ⟨g, k * 3, none⟩) hg1 (.int .i64 ((k : Int) * 3 + 1))).setCell (p := ⟨g, k * 3 + 1, none⟩) hg1 (.int .i64 ((k : Int) * 3 + 2))).setCell (p := ⟨g, k * 3 + 2, none⟩) hg1 (.int .i64 ((k : Int) * 3 + 3))
      have e2 : (k : Int) * 3 + 1 + 1 = (k : Int) * 3 + 2 := by omega
      have e3 : (k : Int) * 3 + 2 + 1 = (k : Int) * 3 + 3 := by omega
      clear hs hps hown hf
      generalize (markedP l k)[k] = p0 at *
      go_wp2
      go_roundw
      case rel => exact ⟨k + 1, by omega, by go_num, by go_num, HS.out, L3⟩
      case measure => simp [intOf]; omega
    · obtain rfl : k = n := by omega
      go_wp2
      go_ret
      exact ⟨rfl, hown, L⟩

set_option maxHeartbeats 1000000 in
theorem heldPcs_val (B : Nat) (v : Value) (l : List Pc) (n : Nat) (w : World) (hn : n ≤ 1048576) (hl : l.length = n) (I : w.ownsRow B 38 3 v n (pcells (markedP l n))) :
    Calls Try.prog 11 #[v, .int .i64 1] w fun e w' => e = .returned (.int .i64 ((n : Int) * 3 + 1)) ∧ w' = w := by
  obtain ⟨va, vc, rfl, -⟩ := own_form I
  go_enter Try.func11, Try.ntmps11
  go_wp2
  go_loop [1, 5] (fun t i => ∃ (k : Nat), k ≤ n ∧ i = .int .i64 k ∧ t = .int .i64 ((k : Int) * 3 + 1)) (fun _ i => n - (intOf i).toNat)
  case atStart => exact ⟨0, by omega, rfl, rfl⟩
  case round =>
    obtain ⟨k, hk, rfl, rfl⟩ := hrel
    by_cases hkn : k < n
    · obtain ⟨g, cp, he, hg1, hg2, a0, a1, a2, hf⟩ := own_pc I k hkn (mk k) (by rw [← hl]; exact markedP_at l k (by omega))
      simp only [Value.slice.injEq] at he
      obtain ⟨rfl, -, -⟩ := he
      have c0 : w.cell? ⟨g, k * 3, none⟩ = some (.int .i64 ((k : Int) * 3 + 1)) := a0
      have c1 : w.cell? ⟨g, k * 3 + 1, none⟩ = some (.int .i64 ((k : Int) * 3 + 2)) := a1
      have c2 : w.cell? ⟨g, k * 3 + 2, none⟩ = some (.int .i64 ((k : Int) * 3 + 3)) := a2
      clear a0 a1 a2 hf
      have e2 : (k : Int) * 3 + 1 + 1 = (k : Int) * 3 + 2 := by omega
      have e3 : (k : Int) * 3 + 2 + 1 = (k : Int) * 3 + 3 := by omega
      go_wp2
      go_round
      case rel => exact ⟨k + 1, by omega, by go_num, by go_num⟩
      case measure => simp [intOf]; omega
    · obtain rfl : k = n := by omega
      go_wp2
      go_ret
      exact ⟨rfl, rfl⟩

end Pk
end Go.Proofs.Ytaocindfopipnaj

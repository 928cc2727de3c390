/- slices.Clone over numbers and controls; rows of one's own. -/
import Derived.Test.YtbmfhdlbbaabgaaCeCtr
import Derived.Maps.AppendAt
import Derived.BigRegion
namespace Go.Proofs.Ytbmfhdlbbaabgaa
namespace Hn
open Go.ChangeShapes Go.WideShapes Go.ChangeAt Go.RowKit Go.Joins
open Pk (new_below join_below cell_at heap_new frozen_at lt_of kept heap_old Drawn info_of Room own_form own_below)
set_option linter.unusedSimpArgs false
set_option linter.unusedVariables false

/-- The cells of controls. -/
def cc1 (p : Ct) : List Value := [.int .i64 p.dv, .int .i64 p.no, .int .i64 p.tk, .int .i64 p.tr, .int .i64 p.dy, .int .i64 p.sa]
def ccells (l : List Ct) : List Value := l.flatMap cc1

theorem ccells_nil : ccells [] = [] := rfl
theorem ccells_cons (p : Ct) (l : List Ct) : ccells (p :: l) = cc1 p ++ ccells l := rfl
theorem ccells_append (l m : List Ct) : ccells l ++ ccells m = ccells (l ++ m) := by simp [ccells]
theorem ccells_snoc (l : List Ct) (p : Ct) : ccells l ++ cc1 p = ccells (l ++ [p]) := by simp [ccells]
theorem ccells_length (l : List Ct) : (ccells l).length = l.length * 6 := by
  induction l with
  | nil => rfl
  | cons p l ih => rw [ccells_cons, List.length_append, ih, List.length_cons]; simp [cc1]; omega
theorem cc1_length (p : Ct) : (cc1 p).length = 6 := rfl
theorem ccells_one (l : List Ct) : ∀ u ∈ ccells l, u.oneCell' = true := by
  intro u hu
  unfold ccells at hu
  rw [List.mem_flatMap] at hu
  obtain ⟨p, -, hu⟩ := hu
  simp only [cc1, List.mem_cons, List.not_mem_nil, or_false] at hu
  rcases hu with rfl | rfl | rfl | rfl | rfl | rfl <;> rfl

theorem ccells_get (l : List Ct) (k c : Nat) (hk : k < l.length) (hc : c < 6) : (ccells l)[k * 6 + c]? = (cc1 l[k])[c]? := by
  induction l generalizing k with
  | nil => simp at hk
  | cons p l ih =>
    rw [ccells_cons]
    cases k with
    | zero =>
      rw [List.getElem?_append_left (by rw [cc1_length]; omega)]
      simp
    | succ k =>
      rw [List.getElem?_append_right (by rw [cc1_length]; omega), cc1_length, show (k + 1) * 6 + c - 6 = k * 6 + c by omega, ih k (by simpa using hk)]
      simp

/-- The cells of a row of one's own. -/
theorem own_cell {w : World} {base e n : Nat} {v : Value} {xs : List Value} (h : w.ownsRow base e 6 v n xs) (hn : 0 < n) :
    ∃ g cap, v = .slice (some ⟨g, 0, none⟩) n cap ∧ base ≤ g ∧ g < w.heap.size ∧ (∀ i u, xs[i]? = some u → w.cell? ⟨g, i, none⟩ = some u) ∧ ∀ i, w.frozen? ⟨g, i, none⟩ = false := by
  obtain ⟨hl, h2⟩ := h
  rcases h2 with ⟨hv, h0⟩ | ⟨g, cap, cur, hv, hg, hh, h1, h3, h4, h5⟩
  · omega
  · refine ⟨g, cap, hv, hg, lt_of hh, fun i u hu => ?_, fun i => frozen_at hh i⟩
    rw [cell_at hh]
    have hx := (List.getElem?_eq_some_iff.1 hu).1
    have h6 : (cur.toList.take (n * 6))[i]? = xs[i]? := by rw [h5]
    rw [List.getElem?_take, if_pos (by omega), Array.getElem?_toList] at h6
    rw [h6]
    exact hu

/-- A row of controls of one's own is a slice of them. -/
theorem own_ctls {w : World} {base e : Nat} {v : Value} {l : List Ct} (h : w.ownsRow base e 6 v l.length (ccells l)) : ∃ a cap, v = .slice a l.length cap ∧ Controls w a l := by
  by_cases h0 : l.length = 0
  · obtain ⟨a, cap, hv, -⟩ := own_form h
    exact ⟨a, cap, hv, Or.inl (List.eq_nil_of_length_eq_zero h0)⟩
  · obtain ⟨g, cap, hv, -, hg, hc, -⟩ := own_cell h (by omega)
    refine ⟨_, cap, hv, Or.inr ⟨g, 0, rfl, hg, fun i hi => ?_⟩⟩
    rw [Nat.zero_add]
    exact ⟨hc (i * 6) _ ((ccells_get l i 0 hi (by omega)).trans rfl), hc (i * 6 + 1) _ ((ccells_get l i 1 hi (by omega)).trans rfl), hc (i * 6 + 2) _ ((ccells_get l i 2 hi (by omega)).trans rfl), hc (i * 6 + 3) _ ((ccells_get l i 3 hi (by omega)).trans rfl), hc (i * 6 + 4) _ ((ccells_get l i 4 hi (by omega)).trans rfl), hc (i * 6 + 5) _ ((ccells_get l i 5 hi (by omega)).trans rfl)⟩

/-- Such a slice has room. -/
theorem own_room {w : World} {base e : Nat} {v : Value} {l : List Ct} (h : w.ownsRow base e 6 v l.length (ccells l)) (hn : 0 < l.length) : ∃ g cap, v = .slice (some ⟨g, 0, none⟩) l.length cap ∧ base ≤ g ∧ g < w.heap.size ∧ Room w g (l.length * 6) := by
  obtain ⟨g, cap, hv, hb, hg, hc, hf⟩ := own_cell h hn
  refine ⟨g, cap, hv, hb, hg, fun j hj => ⟨?_, hf j⟩⟩
  have hx : j < (ccells l).length := by rw [ccells_length]; omega
  exact ⟨_, hc j _ (List.getElem?_eq_getElem hx)⟩

/-- The cells of numbers. -/
def icells (l : List Int) : List Value := l.map fun z => .int .i64 z

theorem icells_length (l : List Int) : (icells l).length = l.length * 1 := by simp [icells]
theorem icells_one (l : List Int) : ∀ u ∈ icells l, u.oneCell' = true := by
  intro u hu
  simp only [icells, List.mem_map] at hu
  obtain ⟨z, -, rfl⟩ := hu
  rfl
theorem icells_at (l : List Int) (i : Nat) (h : i < l.length) : (icells l)[i]? = some (.int .i64 l[i]) := by simp [icells, h]

/-- The cells of a row of one's own, each of one cell. -/
theorem own_cell1 {w : World} {base e n : Nat} {v : Value} {xs : List Value} (h : w.ownsRow base e 1 v n xs) (hn : 0 < n) :
    ∃ g cap, v = .slice (some ⟨g, 0, none⟩) n cap ∧ base ≤ g ∧ g < w.heap.size ∧ (∀ i u, xs[i]? = some u → w.cell? ⟨g, i, none⟩ = some u) ∧ ∀ i, w.frozen? ⟨g, i, none⟩ = false := by
  obtain ⟨hl, h2⟩ := h
  rcases h2 with ⟨hv, h0⟩ | ⟨g, cap, cur, hv, hg, hh, h1, h3, h4, h5⟩
  · omega
  · refine ⟨g, cap, hv, hg, lt_of hh, fun i u hu => ?_, fun i => frozen_at hh i⟩
    rw [cell_at hh]
    have hx := (List.getElem?_eq_some_iff.1 hu).1
    have h6 : (cur.toList.take (n * 1))[i]? = xs[i]? := by rw [h5]
    rw [List.getElem?_take, if_pos (by omega), Array.getElem?_toList] at h6
    rw [h6]
    exact hu

theorem own_ints {w : World} {base e : Nat} {v : Value} {l : List Int} (h : w.ownsRow base e 1 v l.length (icells l)) : ∃ a cap, v = .slice a l.length cap ∧ Ints w a l := by
  by_cases h0 : l.length = 0
  · obtain ⟨a, cap, hv, -⟩ := own_form h
    exact ⟨a, cap, hv, Or.inl (List.eq_nil_of_length_eq_zero h0)⟩
  · obtain ⟨g, cap, hv, hb, hg, hc, hf⟩ := own_cell1 h (by omega)
    refine ⟨_, cap, hv, Or.inr ⟨g, 0, rfl, hg, fun i hi => ?_⟩⟩
    rw [Nat.zero_add]
    exact hc i _ (icells_at l i hi)

theorem own_iroom {w : World} {base e : Nat} {v : Value} {l : List Int} (h : w.ownsRow base e 1 v l.length (icells l)) (hn : 0 < l.length) : ∃ g cap, v = .slice (some ⟨g, 0, none⟩) l.length cap ∧ base ≤ g ∧ g < w.heap.size ∧ Room w g l.length := by
  obtain ⟨g, cap, hv, hb, hg, hc, hf⟩ := own_cell1 h hn
  exact ⟨g, cap, hv, hb, hg, fun j hj => ⟨⟨_, hc j _ (icells_at l j hj)⟩, hf j⟩⟩

theorem ints_get {w : World} {b o : Nat} {l : List Int} (I : Ints w (some ⟨b, o, none⟩) l) : ∀ j u, (icells l)[j]? = some u → w.cell? (Addr.add ⟨b, o, none⟩ j) = some u := by
  intro j u hu
  have hj : j < l.length := by
    have := (List.getElem?_eq_some_iff.1 hu).1
    rw [icells_length] at this
    omega
  obtain ⟨b', o', e, -, hc⟩ := I.at j hj
  simp only [Option.some.injEq, Addr.mk.injEq, and_true] at e
  obtain ⟨rfl, rfl⟩ := e
  rw [icells_at l j hj] at hu
  rw [← hu, add_plain]
  exact hc

theorem ctls_get {w : World} {b o : Nat} {l : List Ct} (I : Controls w (some ⟨b, o, none⟩) l) : ∀ j u, (ccells l)[j]? = some u → w.cell? (Addr.add ⟨b, o, none⟩ j) = some u := by
  intro j u hu
  have hj : j < l.length * 6 := by
    have := (List.getElem?_eq_some_iff.1 hu).1
    rwa [ccells_length] at this
  have hk : j / 6 < l.length := by omega
  have hc : j % 6 < 6 := by omega
  have e : j / 6 * 6 + j % 6 = j := by omega
  have h1 := ccells_get l (j / 6) (j % 6) hk hc
  rw [e, hu] at h1
  obtain ⟨b', o', e', -, h⟩ := I.at (j / 6) hk
  simp only [Option.some.injEq, Addr.mk.injEq, and_true] at e'
  obtain ⟨rfl, rfl⟩ := e'
  rw [add_plain]
  obtain ⟨c0, c1, c2, c3, c4, c5⟩ := h
  have h6 : j % 6 = 0 ∨ j % 6 = 1 ∨ j % 6 = 2 ∨ j % 6 = 3 ∨ j % 6 = 4 ∨ j % 6 = 5 := by omega
  rcases h6 with h | h | h | h | h | h <;> rw [h] at h1 <;> simp [cc1] at h1 <;> rw [h1]
  · rw [show o + j = o + j / 6 * 6 by omega]; exact c0
  · rw [show o + j = o + j / 6 * 6 + 1 by omega]; exact c1
  · rw [show o + j = o + j / 6 * 6 + 2 by omega]; exact c2
  · rw [show o + j = o + j / 6 * 6 + 3 by omega]; exact c3
  · rw [show o + j = o + j / 6 * 6 + 4 by omega]; exact c4
  · rw [show o + j = o + j / 6 * 6 + 5 by omega]; exact c5

theorem nil_row (w : World) (t size : Nat) : (w.alloc (.cells #[] t)).ownsRow w.heap.size t size (.slice (some ⟨w.heap.size, 0, none⟩) 0 0) 0 [] :=
  ⟨by simp, Or.inr ⟨w.heap.size, 0, #[], rfl, Nat.le_refl _, heap_new w _, by omega, by unfold maxLen; omega, by simp, by simp⟩⟩

theorem none_row (w : World) (base t size : Nat) : w.ownsRow base t size (.slice none 0 0) 0 [] := ⟨by simp, Or.inl ⟨rfl, rfl⟩⟩

set_option maxHeartbeats 1000000 in
theorem clone_ints (b o : Nat) (l : List Int) (cap : Nat) (w : World) (hn : l.length ≤ 1048576) (I : Ints w (some ⟨b, o, none⟩) l) :
    Calls Try.prog 46 #[.slice (some ⟨b, o, none⟩) l.length cap] w fun e w' => ∃ v, e = .returned v ∧ w'.ownsRow w.heap.size 3 1 v l.length (icells l) ∧ Below w.heap.size w w' := by
  obtain ⟨i0, hi, hz0, hz1, hz2⟩ := info_of intInfo
  have hnil : ∀ w : World, (binOp .eql 24 (.slice (some ⟨b, o, none⟩) l.length cap) (.slice none 0 0)).run Try.prog w = .ok (.bool false) w := fun w => Lib.run_eql_slice_nil w 24 3 _ _ _ _ _ Try.underlying24
  have O0 := nil_row w 3 1
  have N0 := new_below w (.cells #[] 3)
  have HG : Hid (_) := ints_get (I.on N0)
  go_enter Try.func46, Try.ntmps46
  go_wp2_with (at_builtin; refine wpList_append_own_at _ rfl _ _ 24 rfl w.heap.size 3 i0 (.int .i64 0) 1 8 Try.underlying24 hi hz0 hz1 hz2 rfl (by decide) _ _ _ rfl O0 ⟨b, o, none⟩ l.length cap (icells l) rfl ?c0 ?c1 ?c2 ?c3 ?c4 ?c5 ?_)
  case c0 => exact icells_length l
  case c1 => exact HG.out
  case c2 => exact icells_one l
  case c3 => unfold maxLen; omega
  case c4 => omega
  case c5 => exact N0.size
  intro v' w5 O5 G5 _ _
  have L5 : Below w.heap.size w w5 := N0.grown G5 N0.size (fun j hj => (O0.lt j hj).1)
  try rw [Nat.zero_add, List.nil_append] at O5
  obtain ⟨va2, vc2, rfl, -⟩ := own_form O5
  have HO : Hid (w5.ownsRow w.heap.size 3 1 (.slice va2 l.length vc2) l.length (icells l)) := O5
  clear O0 O5 G5 N0 HG
  go_wp2
  go_ret
  exact ⟨_, rfl, HO.out, L5⟩

theorem clone_ints_nil (cap : Nat) (w : World) :
    Calls Try.prog 46 #[.slice none 0 cap] w fun e w' => e = .returned (.slice none 0 0) ∧ w' = w := by
  have hnil : ∀ w : World, (binOp .eql 24 (.slice none 0 cap) (.slice none 0 0)).run Try.prog w = .ok (.bool true) w := fun w => Lib.run_eql_slice_nil w 24 3 _ _ _ _ _ Try.underlying24
  go_enter Try.func46, Try.ntmps46
  go_wp2
  go_ret
  exact ⟨rfl, rfl⟩

set_option maxHeartbeats 1000000 in
theorem clone_ctls (b o : Nat) (l : List Ct) (cap : Nat) (w : World) (hn : l.length ≤ 1048576) (I : Controls w (some ⟨b, o, none⟩) l) :
    Calls Try.prog 47 #[.slice (some ⟨b, o, none⟩) l.length cap] w fun e w' => ∃ v, e = .returned v ∧ w'.ownsRow w.heap.size 37 6 v l.length (ccells l) ∧ Below w.heap.size w w' := by
  obtain ⟨i0, hi, hz0, hz1, hz2⟩ := info_of info_control
  have hnil : ∀ w : World, (binOp .eql 25 (.slice (some ⟨b, o, none⟩) l.length cap) (.slice none 0 0)).run Try.prog w = .ok (.bool false) w := fun w => Lib.run_eql_slice_nil w 25 37 _ _ _ _ _ Try.underlying25
  have O0 := nil_row w 37 6
  have N0 := new_below w (.cells #[] 37)
  have HG : Hid (_) := ctls_get (I.on N0)
  go_enter Try.func47, Try.ntmps47
  go_wp2_with (at_builtin; refine wpList_append_own_at _ rfl _ _ 25 rfl w.heap.size 37 i0 (lgV ⟨0, 0, 0, 0, 0, 0⟩) 6 48 Try.underlying25 hi hz0 hz1 hz2 rfl (by decide) _ _ _ rfl O0 ⟨b, o, none⟩ l.length cap (ccells l) rfl ?c0 ?c1 ?c2 ?c3 ?c4 ?c5 ?_)
  case c0 => exact ccells_length l
  case c1 => exact HG.out
  case c2 => exact ccells_one l
  case c3 => unfold maxLen; omega
  case c4 => omega
  case c5 => exact N0.size
  intro v' w5 O5 G5 _ _
  have L5 : Below w.heap.size w w5 := N0.grown G5 N0.size (fun j hj => (O0.lt j hj).1)
  try rw [Nat.zero_add, List.nil_append] at O5
  obtain ⟨va2, vc2, rfl, -⟩ := own_form O5
  have HO : Hid (w5.ownsRow w.heap.size 37 6 (.slice va2 l.length vc2) l.length (ccells l)) := O5
  clear O0 O5 G5 N0 HG
  go_wp2
  go_ret
  exact ⟨_, rfl, HO.out, L5⟩

theorem clone_ctls_nil (cap : Nat) (w : World) :
    Calls Try.prog 47 #[.slice none 0 cap] w fun e w' => e = .returned (.slice none 0 0) ∧ w' = w := by
  have hnil : ∀ w : World, (binOp .eql 25 (.slice none 0 cap) (.slice none 0 0)).run Try.prog w = .ok (.bool true) w := fun w => Lib.run_eql_slice_nil w 25 37 _ _ _ _ _ Try.underlying25
  go_enter Try.func47, Try.ntmps47
  go_wp2
  go_ret
  exact ⟨rfl, rfl⟩

/-- A list as it comes: none at all, or somewhere. -/
def At (a : Option Addr) (n c : Nat) : Prop := (a = none ∧ n = 0 ∧ c = 0) ∨ ∃ b o, a = some ⟨b, o, none⟩

theorem own_at' {w : World} {base e size n c : Nat} {a : Option Addr} {xs : List Value} (h : w.ownsRow base e size (.slice a n c) n xs) : At a n c := by
  obtain ⟨-, ⟨h1, h2⟩ | ⟨g, cap, cur, h1, -⟩⟩ := h
  · simp only [Value.slice.injEq] at h1
    exact Or.inl h1
  · simp only [Value.slice.injEq] at h1
    exact Or.inr ⟨g, 0, h1.1⟩

theorem clone_ints_at (a : Option Addr) (l : List Int) (cap : Nat) (w : World) (hn : l.length ≤ 1048576) (h : At a l.length cap) (I : Ints w a l) :
    Calls Try.prog 46 #[.slice a l.length cap] w fun e w' => ∃ v, e = .returned v ∧ w'.ownsRow w.heap.size 3 1 v l.length (icells l) ∧ Below w.heap.size w w' := by
  rcases h with ⟨rfl, h2, rfl⟩ | ⟨b, o, rfl⟩
  · obtain rfl := List.length_eq_zero_iff.1 h2
    exact (clone_ints_nil 0 w).mono fun e w' ⟨h1, h3⟩ => ⟨_, h1, by rw [h3]; exact none_row _ _ _ _, by rw [h3]; exact Below.refl _ _⟩
  · exact clone_ints b o l cap w hn I

theorem clone_ctls_at (a : Option Addr) (l : List Ct) (cap : Nat) (w : World) (hn : l.length ≤ 1048576) (h : At a l.length cap) (I : Controls w a l) :
    Calls Try.prog 47 #[.slice a l.length cap] w fun e w' => ∃ v, e = .returned v ∧ w'.ownsRow w.heap.size 37 6 v l.length (ccells l) ∧ Below w.heap.size w w' := by
  rcases h with ⟨rfl, h2, rfl⟩ | ⟨b, o, rfl⟩
  · obtain rfl := List.length_eq_zero_iff.1 h2
    exact (clone_ctls_nil 0 w).mono fun e w' ⟨h1, h3⟩ => ⟨_, h1, by rw [h3]; exact none_row _ _ _ _, by rw [h3]; exact Below.refl _ _⟩
  · exact clone_ctls b o l cap w hn I

end Hn
end Go.Proofs.Ytbmfhdlbbaabgaa

/- A seat that is given is free; taken, there is one less; given back, all is as before: the mathematics. -/
import Derived.Test.YtiollklighmojadSeBestI
import Derived.Test.YtiollklighmojadSeTake
namespace Go.Proofs.Ytiollklighmojad
namespace Se
open Tn (Hd St)
set_option linter.unusedSimpArgs false
set_option linter.unusedVariables false

theorem best_mem (s : List Hl) (G : Hl → Int) (h : 0 < s.length) : bestP s G ∈ s := by
  obtain ⟨k, hk⟩ : ∃ k, s.length = k + 1 := ⟨s.length - 1, by omega⟩
  have hb : bi s G s.length < s.length := by
    rw [hk]
    exact Nat.lt_succ_of_le (bi_lt s G k)
  unfold bestP
  rw [getD_is s _ hb]
  exact List.getElem_mem hb

/-- Of the seats that come first none have one key. -/
theorem pre_apart (t : Hd) (day a b : Int) (n c s : Nat) (hs : s ≤ n) : (∀ q ∈ pre t day a b n c s, ∃ i j : Nat, (i < c ∧ j < n ∨ i = c ∧ j < s) ∧ q = seat t day a b i j) ∧ (pre t day a b n c s).Pairwise fun p q => key p ≠ key q := by
  induction c generalizing s with
  | zero =>
    induction s with
    | zero => rw [pre_0]; exact ⟨fun q hq => by simp at hq, List.Pairwise.nil⟩
    | succ s ih =>
      obtain ⟨h1, h2⟩ := ih (by omega)
      rw [pre_next]
      refine ⟨fun q hq => ?_, ?_⟩
      · rw [List.mem_append, List.mem_singleton] at hq
        rcases hq with hq | rfl
        · obtain ⟨i, j, h, e⟩ := h1 q hq
          exact ⟨i, j, by omega, e⟩
        · exact ⟨0, s, by omega, rfl⟩
      · rw [List.pairwise_append]
        refine ⟨h2, by simp, fun p hp q hq => ?_⟩
        rw [List.mem_singleton] at hq
        subst hq
        obtain ⟨i, j, h, rfl⟩ := h1 p hp
        intro e
        rw [key_eq] at e
        obtain ⟨-, -, e1, e2⟩ := e
        simp only [seat] at e1 e2
        omega
  | succ c ihc =>
    induction s with
    | zero =>
      obtain ⟨h1, h2⟩ := ihc n (Nat.le_refl _)
      rw [pre_row] at h1 h2
      refine ⟨fun q hq => ?_, h2⟩
      obtain ⟨i, j, h, e⟩ := h1 q hq
      exact ⟨i, j, by omega, e⟩
    | succ s ih =>
      obtain ⟨h1, h2⟩ := ih (by omega)
      rw [pre_next]
      refine ⟨fun q hq => ?_, ?_⟩
      · rw [List.mem_append, List.mem_singleton] at hq
        rcases hq with hq | rfl
        · obtain ⟨i, j, h, e⟩ := h1 q hq
          exact ⟨i, j, by omega, e⟩
        · exact ⟨c + 1, s, by omega, rfl⟩
      · rw [List.pairwise_append]
        refine ⟨h2, by simp, fun p hp q hq => ?_⟩
        rw [List.mem_singleton] at hq
        subst hq
        obtain ⟨i, j, h, rfl⟩ := h1 p hp
        intro e
        rw [key_eq] at e
        obtain ⟨-, -, e1, e2⟩ := e
        simp only [seat] at e1 e2
        omega

theorem all_apart (t : Hd) (day x y : Int) : (∀ q ∈ allL t day x y, ∃ i j : Nat, i < t.co.toNat ∧ j < t.se.toNat ∧ q = seat t day x y i j) ∧ (allL t day x y).Pairwise fun p q => key p ≠ key q := by
  obtain ⟨h1, h2⟩ := pre_apart t day x y t.se.toNat t.co.toNat 0 (Nat.zero_le _)
  refine ⟨fun q hq => ?_, h2⟩
  obtain ⟨i, j, h, e⟩ := h1 q hq
  exact ⟨i, j, by omega, by omega, e⟩

/-- Just one has the key of one of them. -/
theorem one_key {s : List Hl} (h : s.Pairwise fun p q => key p ≠ key q) {p : Hl} (hp : p ∈ s) : (s.filter fun q => decide (key q = key p)).length = 1 := by
  induction s with
  | nil => simp at hp
  | cons a s ih =>
    obtain ⟨h1, h2⟩ := List.pairwise_cons.1 h
    rw [List.mem_cons] at hp
    rcases hp with rfl | hp
    · rw [List.filter_cons_of_pos (by simp)]
      have : (s.filter fun q => decide (key q = key p)) = [] := by
        rw [List.filter_eq_nil_iff]
        intro q hq
        have := h1 q hq
        simp only [decide_eq_true_eq]
        exact fun e => this e.symm
      rw [this]
      rfl
    · rw [List.filter_cons_of_neg (by have := h1 p hp; simpa using this)]
      exact ih h2 hp

theorem len_part (s : List Hl) (f : Hl → Bool) : (s.filter fun q => !f q).length + (s.filter f).length = s.length := by
  induction s with
  | nil => rfl
  | cons a s ih => cases h : f a <;> simp [h] <;> omega

theorem meet_od (p q : Hl) (x : Int) : meetB p { q with od := x } = meetB p q := rfl
theorem meet_od' (p q : Hl) (x : Int) : meetB { p with od := x } q = meetB p q := rfl

theorem free_od (l : List Hl) (p : Hl) (x : Int) : freeB l { p with od := x } = freeB l p := rfl

theorem free_snoc (l : List Hl) (h q : Hl) : freeB (l ++ [h]) q = (freeB l q && !meetB q h) := by
  unfold freeB
  rw [List.all_append]
  simp

theorem okR_snoc (s l : List Hl) (h : Hl) : okR s (l ++ [h]) = (okR s l && (holdB h && freeB (s ++ l) h)) := by
  induction l generalizing s with
  | nil => simp [okR]
  | cons a l ih =>
    rw [List.cons_append, okR, okR, ih, List.append_assoc, List.singleton_append]
    cases holdB a <;> cases freeB s a <;> simp

/-- What is asked and given. -/
structure Given (l : List Hl) (t : Hd) (ls : List St) (day x y : Int) (p : Hl) : Prop where
  ask : askB t ls day x y = true
  mem : p ∈ freeL l t day x y
  tr : p.tr = t.id
  dy : p.dy = day
  ba : p.ba = x
  be : p.be = y
  lt : x < y
  ok : holdB { p with od := 777 } = true

theorem given {l : List Hl} {t : Hd} {ls : List St} {day x y : Int} {G : Hl → Int} (h : 0 < (resL l t ls day x y).length) : Given l t ls day x y (bestP (resL l t ls day x y) G) := by
  have hm := best_mem _ G h
  unfold resL at hm h ⊢
  by_cases ha : askB t ls day x y = true
  · rw [if_pos ha] at hm h ⊢
    generalize bestP (freeL l t day x y) G = p at *
    obtain ⟨h0, h1, h2, h3, h4⟩ := ask_is ha
    obtain ⟨r1, r2, r3, r4, r5, r6⟩ := run_is h4
    have hma := hm
    unfold freeL at hma
    rw [List.mem_filter] at hma
    obtain ⟨i, j, hi, hj, rfl⟩ := (all_apart t day x y).1 p hma.1
    refine ⟨ha, hm, rfl, rfl, rfl, rfl, h1, ?_⟩
    simp only [holdB, kyB, key, seat, Bool.and_eq_true, in_is, st_is, decide_eq_true_eq]
    omega
  · rw [if_neg ha] at h
    simp at h

theorem Given.res {l : List Hl} {t : Hd} {ls : List St} {day x y : Int} {p : Hl} (H : Given l t ls day x y p) : resL l t ls day x y = freeL l t day x y := by
  unfold resL
  rw [if_pos H.ask]

theorem Given.free {l : List Hl} {t : Hd} {ls : List St} {day x y : Int} {p : Hl} (H : Given l t ls day x y p) : freeB l p = true := by
  have := H.mem
  unfold freeL at this
  exact (List.mem_filter.1 this).2

theorem Given.meets {l : List Hl} {t : Hd} {ls : List St} {day x y : Int} {p : Hl} (H : Given l t ls day x y p) : meetB p p = true := by
  unfold meetB
  rw [H.ba, H.be]
  simp [H.lt]

theorem Given.takes {l : List Hl} {t : Hd} {ls : List St} {day x y : Int} {p : Hl} (H : Given l t ls day x y p) (h : holdsB l = true) (hl : l.length < 400) : holdsB (l ++ [{ p with od := 777 }]) = true := by
  unfold holdsB at h ⊢
  rw [Bool.and_eq_true] at h
  rw [okR_snoc, h.2, H.ok, List.nil_append, free_od, H.free, List.length_append]
  simp
  omega

theorem Given.again {l : List Hl} {t : Hd} {ls : List St} {day x y : Int} {p : Hl} (H : Given l t ls day x y p) : holdsB ((l ++ [{ p with od := 777 }]) ++ [{ p with od := 777 }]) = false := by
  unfold holdsB
  rw [okR_snoc, List.nil_append, free_od, free_snoc, meet_od, H.meets]
  simp

theorem Given.one {l : List Hl} {t : Hd} {ls : List St} {day x y : Int} {p : Hl} (H : Given l t ls day x y p) : (resL (l ++ [{ p with od := 777 }]) t ls day x y).length + 1 = (resL l t ls day x y).length := by
  have e1 : resL (l ++ [{ p with od := 777 }]) t ls day x y = (freeL l t day x y).filter fun q => !decide (key q = key p) := by
    unfold resL
    rw [if_pos H.ask]
    unfold freeL
    rw [List.filter_filter]
    apply List.filter_congr
    intro q hq
    rw [free_snoc, meet_od]
    obtain ⟨i, j, -, -, rfl⟩ := (all_apart t day x y).1 q hq
    have hlt := H.lt
    have : meetB (seat t day x y i j) p = decide (key (seat t day x y i j) = key p) := by
      unfold meetB
      rw [H.ba, H.be]
      simp only [seat]
      simp [hlt]
    rw [this, Bool.and_comm]
  rw [e1, H.res]
  have hp := ((all_apart t day x y).2.filter (freeB l))
  have h1 := one_key hp H.mem
  have h2 := len_part (freeL l t day x y) fun q => decide (key q = key p)
  unfold freeL at h1 h2 ⊢
  omega

theorem Given.less {l : List Hl} {t : Hd} {ls : List St} {day x y : Int} {p : Hl} (H : Given l t ls day x y p) : cntV (l ++ [{ p with od := 777 }]) t ls day x y = cntV l t ls day x y - 1 := by
  have := H.one
  unfold cntV
  rw [if_pos H.ask, if_pos H.ask]
  omega

theorem rel_back {l : List Hl} {p : Hl} (h : ∀ q ∈ l, q.od ≤ 7) : ((l ++ [{ p with od := 777 }]).filter fun q => decide (q.od ≠ 777)) = l := by
  rw [List.filter_append, List.filter_eq_self.2 (fun q hq => by have := h q hq; simp; omega)]
  simp

theorem held_one {l : List Hl} {p : Hl} (h : ∀ q ∈ l, q.od ≤ 7) : ((l ++ [{ p with od := 777 }]).filter fun q => decide (q.od = 777)) = [{ p with od := 777 }] := by
  rw [List.filter_append, List.filter_eq_nil_iff.2 (fun q hq => by have := h q hq; simp; omega)]
  simp

theorem cnt_pos (l : List Hl) (t : Hd) (ls : List St) (day x y : Int) : decide (0 < cntV l t ls day x y) = decide (0 < (resL l t ls day x y).length) := by
  unfold cntV
  by_cases ha : askB t ls day x y = true
  · rw [if_pos ha]
    apply decide_eq_decide.2
    omega
  · rw [if_neg ha]
    unfold resL
    rw [if_neg ha]
    rfl

end Se
end Go.Proofs.Ytiollklighmojad

/- What the program gathers of tickets taken twice. -/
import Derived.Test.YtbmfhdlbbaabgaaCeMapD
namespace Go.Proofs.Ytbmfhdlbbaabgaa
namespace Hn
open Go.ChangeShapes Go.WideShapes Go.ChangeAt Go.RowKit Go.Joins
open Pk (new_below join_below cell_at heap_new frozen_at lt_of kept heap_old Drawn info_of Room own_form own_below)
set_option linter.unusedSimpArgs false
set_option linter.unusedVariables false

def elig (x : Ct) : Prop := 1 ≤ x.tk ∧ x.sa = 0
instance (x : Ct) : Decidable (elig x) := inferInstanceAs (Decidable (_ ∧ _))

def keyD (x : Ct) : KyD := ⟨x.tk, x.tr, x.dy⟩

/-- The first device of each taking, of the first controls. -/
def fF (l : List Ct) : Nat → KyD → Option Int
  | 0 => fun _ => none
  | k + 1 => match l[k]? with
    | none => fF l k
    | some x => if elig x then (match fF l k (keyD x) with | none => putD (fF l k) (keyD x) x.dv | some _ => fF l k) else fF l k

/-- The tickets of which a second device is seen. -/
def dD (l : List Ct) : Nat → List Int
  | 0 => []
  | k + 1 => match l[k]? with
    | none => dD l k
    | some x => if elig x then (match fF l k (keyD x) with | none => dD l k | some d => if d = x.dv then dD l k else dD l k ++ [x.tk]) else dD l k

theorem fF_skip {l : List Ct} {k : Nat} (hk : k < l.length) (h : ¬ elig l[k]) : fF l (k + 1) = fF l k ∧ dD l (k + 1) = dD l k := by
  rw [fF, dD, List.getElem?_eq_getElem hk]
  exact ⟨if_neg h, if_neg h⟩

theorem fF_new {l : List Ct} {k : Nat} (hk : k < l.length) (h : elig l[k]) (hn : fF l k (keyD l[k]) = none) : fF l (k + 1) = putD (fF l k) (keyD l[k]) l[k].dv ∧ dD l (k + 1) = dD l k := by
  rw [fF, dD, List.getElem?_eq_getElem hk]
  simp only [if_pos h, hn]
  exact ⟨by trivial, by trivial⟩

theorem fF_same {l : List Ct} {k : Nat} {d : Int} (hk : k < l.length) (h : elig l[k]) (hn : fF l k (keyD l[k]) = some d) (hd : d = l[k].dv) : fF l (k + 1) = fF l k ∧ dD l (k + 1) = dD l k := by
  rw [fF, dD, List.getElem?_eq_getElem hk]
  simp only [if_pos h, hn]
  exact ⟨by trivial, if_pos hd⟩

theorem fF_more {l : List Ct} {k : Nat} {d : Int} (hk : k < l.length) (h : elig l[k]) (hn : fF l k (keyD l[k]) = some d) (hd : ¬ d = l[k].dv) : fF l (k + 1) = fF l k ∧ dD l (k + 1) = dD l k ++ [l[k].tk] := by
  rw [fF, dD, List.getElem?_eq_getElem hk]
  simp only [if_pos h, hn]
  exact ⟨by trivial, if_neg hd⟩

theorem dD_step (l : List Ct) (k : Nat) : dD l (k + 1) = dD l k ∨ ∃ t, dD l (k + 1) = dD l k ++ [t] := by
  rw [dD]
  split
  · exact Or.inl rfl
  · split
    · split
      · exact Or.inl rfl
      · split
        · exact Or.inl rfl
        · exact Or.inr ⟨_, rfl⟩
    · exact Or.inl rfl

theorem dD_len (l : List Ct) : ∀ k, (dD l k).length ≤ k := by
  intro k
  induction k with
  | zero => simp [dD]
  | succ k ih =>
    rcases dD_step l k with h | ⟨t, h⟩ <;> rw [h]
    · omega
    · simp; omega

theorem dD_mono {l : List Ct} {t : Int} {a b : Nat} (hab : a ≤ b) (h : t ∈ dD l a) : t ∈ dD l b := by
  induction b with
  | zero => have : a = 0 := by omega
            subst this; exact h
  | succ b ih =>
    by_cases e : a = b + 1
    · subst e; exact h
    · have := ih (by omega)
      rcases dD_step l b with h | ⟨t, h⟩ <;> rw [h]
      · exact this
      · exact List.mem_append_left _ this

theorem fF_keeps {l : List Ct} {q : KyD} {d : Int} {a b : Nat} (hab : a ≤ b) (h : fF l a q = some d) : fF l b q = some d := by
  induction b with
  | zero => have : a = 0 := by omega
            subst this; exact h
  | succ b ih =>
    by_cases e : a = b + 1
    · subst e; exact h
    · have hb := ih (by omega)
      by_cases hl : b < l.length
      · by_cases he : elig l[b]
        · cases hn : fF l b (keyD l[b]) with
          | none =>
            rw [(fF_new hl he hn).1]
            unfold putD
            by_cases e2 : q = keyD l[b]
            · subst e2; rw [hn] at hb; cases hb
            · rw [if_neg e2]; exact hb
          | some x =>
            by_cases hd : x = l[b].dv
            · rw [(fF_same hl he hn hd).1]; exact hb
            · rw [(fF_more hl he hn hd).1]; exact hb
        · rw [(fF_skip hl he).1]; exact hb
      · rw [fF, List.getElem?_eq_none (by omega)]
        exact hb

theorem fF_some {l : List Ct} {q : KyD} {d : Int} : ∀ a, a ≤ l.length → fF l a q = some d → ∃ b, ∃ h : b < l.length, b < a ∧ elig l[b] ∧ keyD l[b] = q ∧ l[b].dv = d := by
  intro a
  induction a with
  | zero => intro _ h; cases h
  | succ a ih =>
    intro ha h
    have hl : a < l.length := by omega
    have old : fF l a q = some d → ∃ b, ∃ h : b < l.length, b < a + 1 ∧ elig l[b] ∧ keyD l[b] = q ∧ l[b].dv = d := fun h => by
      obtain ⟨b, hb, h1, h2⟩ := ih (by omega) h
      exact ⟨b, hb, by omega, h2⟩
    by_cases he : elig l[a]
    · cases hn : fF l a (keyD l[a]) with
      | none =>
        rw [(fF_new hl he hn).1] at h
        unfold putD at h
        by_cases e : q = keyD l[a]
        · rw [if_pos e] at h
          cases h
          exact ⟨a, hl, by omega, he, e.symm, rfl⟩
        · rw [if_neg e] at h
          exact old h
      | some x =>
        by_cases hd : x = l[a].dv
        · rw [(fF_same hl he hn hd).1] at h; exact old h
        · rw [(fF_more hl he hn hd).1] at h; exact old h
    · rw [(fF_skip hl he).1] at h; exact old h

theorem fF_at {l : List Ct} {b : Nat} (hb : b < l.length) (he : elig l[b]) : ∃ d, fF l (b + 1) (keyD l[b]) = some d ∧ (fF l b (keyD l[b]) = some d ∨ (fF l b (keyD l[b]) = none ∧ d = l[b].dv)) := by
  cases hn : fF l b (keyD l[b]) with
  | none =>
    refine ⟨l[b].dv, ?_, Or.inr ⟨rfl, rfl⟩⟩
    rw [(fF_new hb he hn).1]
    exact if_pos rfl
  | some x => exact ⟨x, fF_keeps (Nat.le_succ _) hn, Or.inl rfl⟩

theorem dD_mem {l : List Ct} {t : Int} : ∀ n, n ≤ l.length → (t ∈ dD l n ↔ ∃ a, ∃ ha : a < l.length, a < n ∧ l[a].tk = t ∧ ∃ b, ∃ hb : b < l.length, b < a ∧ dblOk l[a] l[b] = true) := by
  intro n hn
  constructor
  · revert hn
    induction n with
    | zero => intro _ h; cases h
    | succ n ih =>
      intro hn h
      have hl : n < l.length := by omega
      have old : t ∈ dD l n → ∃ a, ∃ ha : a < l.length, a < n + 1 ∧ l[a].tk = t ∧ ∃ b, ∃ hb : b < l.length, b < a ∧ dblOk l[a] l[b] = true := fun h => by
        obtain ⟨a, ha, h1, h2⟩ := ih (by omega) h
        exact ⟨a, ha, by omega, h2⟩
      by_cases he : elig l[n]
      · cases hf : fF l n (keyD l[n]) with
        | none => rw [(fF_new hl he hf).2] at h; exact old h
        | some d =>
          by_cases hd : d = l[n].dv
          · rw [(fF_same hl he hf hd).2] at h; exact old h
          · rw [(fF_more hl he hf hd).2] at h
            rcases List.mem_append.1 h with h | h
            · exact old h
            · rw [List.mem_singleton] at h
              obtain ⟨b, hb, h1, h2, h3, h4⟩ := fF_some n (by omega) hf
              refine ⟨n, hl, by omega, h.symm, b, hb, h1, dbl_iff.2 ?_⟩
              unfold keyD at h3
              simp only [KyD.mk.injEq] at h3
              exact ⟨he.1, h3.1.symm, h3.2.1.symm, h3.2.2.symm, he.2, h2.2, fun e => hd (by rw [← h4, e])⟩
      · rw [(fF_skip hl he).2] at h; exact old h
  · rintro ⟨a, ha, h1, h2, b, hb, h3, h4⟩
    obtain ⟨p1, p2, p3, p4, p5, p6, p7⟩ := dbl_iff.1 h4
    have ea : elig l[a] := ⟨p1, p5⟩
    have eb : elig l[b] := ⟨by omega, p6⟩
    have hkey : keyD l[b] = keyD l[a] := by unfold keyD; rw [p2, p3, p4]
    obtain ⟨d, hd1, hd2⟩ := fF_at hb eb
    have hda : fF l a (keyD l[a]) = some d := by rw [← hkey]; exact fF_keeps (by omega) hd1
    by_cases e : d = l[a].dv
    · have hbd : ¬ d = l[b].dv := fun e2 => p7 (by rw [← e, e2])
      rcases hd2 with hd2 | ⟨-, hd2⟩
      · refine dD_mono (a := b + 1) (by omega) ?_
        rw [(fF_more hb eb hd2 hbd).2]
        exact List.mem_append_right _ (by rw [List.mem_singleton]; omega)
      · exact absurd hd2 hbd
    · refine dD_mono (a := a + 1) (by omega) ?_
      rw [(fF_more ha ea hda e).2]
      exact List.mem_append_right _ (by rw [List.mem_singleton]; omega)

/-- Sorted, each once: the tickets taken twice. -/
theorem dbl_same (l : List Ct) : Lib.compact ((dD l l.length).mergeSort fun x y => decide (x ≤ y)) = dblL l := by
  obtain ⟨h1, h2⟩ := compact_sorted (D := dD l l.length)
  exact asc_one h1 (dblI_asc l _ (Nat.le_refl _)) fun t => (h2 t).trans ((dD_mem _ (Nat.le_refl _)).trans (dblI_mem _ (Nat.le_refl _)).symm)

theorem wf_key {l : List Ct} (h : Wfs l) {k : Nat} (hk : k < l.length) : WfKD (keyD l[k]) := by
  have := h _ (List.getElem_mem hk)
  exact ⟨this.tk, this.tr, this.dy⟩

theorem sb_size {w : World} {b : Nat} {o' : Obj} : (Go.ChangeMaps.setBlock w b o').heap.size = w.heap.size := by simp [Go.ChangeMaps.setBlock]

theorem sb_other {w : World} {b k : Nat} {o o' : Obj} (hb : w.heap[b]? = some o) (hk : k ≠ b) : (Go.ChangeMaps.setBlock w b o').heap[k]? = w.heap[k]? := (MapKept.heap_set (o' := o') hb).2 k hk

theorem sb_below {B b : Nat} {a w : World} {o o' : Obj} (L : Below B a w) (hb : w.heap[b]? = some o) (hB : B ≤ b) : Below B a (Go.ChangeMaps.setBlock w b o') :=
  ⟨L.os, L.tape, L.output, by rw [sb_size]; exact L.size, fun k hk => (sb_other hb (by omega)).trans (L.block k hk)⟩

theorem sb_own {w : World} {b lo e size n : Nat} {o o' : Obj} {v : Value} {xs : List Value} (h : w.ownsRow lo e size v n xs) (hb : w.heap[b]? = some o) (hl : b < lo) : (Go.ChangeMaps.setBlock w b o').ownsRow lo e size v n xs := by
  obtain ⟨h1, h2⟩ := h
  refine ⟨h1, ?_⟩
  rcases h2 with h2 | ⟨g, cap, cur, hv, hg, hh, hr⟩
  · exact Or.inl h2
  · exact Or.inr ⟨g, cap, cur, hv, hg, (sb_other hb (by omega)).trans hh, hr⟩

end Hn
end Go.Proofs.Ytbmfhdlbbaabgaa

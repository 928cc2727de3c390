/- Tickets taken twice: the mathematics of Doubles. -/
import Derived.Test.YtbmfhdlbbaabgaaCeIns
namespace Go.Proofs.Ytbmfhdlbbaabgaa
namespace Hn
set_option linter.unusedSimpArgs false
set_option linter.unusedVariables false

/-- Whether two controls tell one ticket that was taken twice. -/
def dblOk (x y : Ct) : Bool := decide (1 ≤ x.tk) && (decide (x.tk = y.tk) && (decide (x.tr = y.tr) && (decide (x.dy = y.dy) && (decide (x.sa = 0) && (decide (y.sa = 0) && !decide (x.dv = y.dv))))))

theorem dbl_iff {x y : Ct} : dblOk x y = true ↔ 1 ≤ x.tk ∧ x.tk = y.tk ∧ x.tr = y.tr ∧ x.dy = y.dy ∧ x.sa = 0 ∧ y.sa = 0 ∧ x.dv ≠ y.dv := by
  unfold dblOk
  simp

/-- A number more in an ascending list. -/
def addT (t : Int) (out : List Int) : List Int := if t ∈ out then out else insI t out

def dblK (l : List Ct) (x : Ct) : Nat → List Int → List Int
  | 0, out => out
  | m + 1, out => match l[m]? with
    | none => dblK l x m out
    | some y => if dblOk x y = true then addT x.tk (dblK l x m out) else dblK l x m out

def dblI (l : List Ct) : Nat → List Int
  | 0 => []
  | i + 1 => match l[i]? with
    | none => dblI l i
    | some x => dblK l x i (dblI l i)

/-- The tickets taken twice, ascending. -/
def dblL (l : List Ct) : List Int := dblI l l.length

theorem dblK_step {l : List Ct} {x : Ct} {m : Nat} (hm : m < l.length) (out : List Int) : dblK l x (m + 1) out = if dblOk x l[m] = true then addT x.tk (dblK l x m out) else dblK l x m out := by
  rw [dblK, List.getElem?_eq_getElem hm]

theorem dblI_step {l : List Ct} {i : Nat} (hi : i < l.length) : dblI l (i + 1) = dblK l l[i] i (dblI l i) := by
  rw [dblI, List.getElem?_eq_getElem hi]

theorem mem_ins {t x : Int} {l : List Int} : t ∈ insI x l ↔ t = x ∨ t ∈ l := by
  rw [ins_is]
  constructor
  · intro h
    rcases List.mem_append.1 h with h | h
    · exact Or.inr (List.mem_of_mem_take h)
    · rcases List.mem_cons.1 h with h | h
      · exact Or.inl h
      · exact Or.inr (List.mem_of_mem_drop h)
  · rintro (rfl | h)
    · exact List.mem_append_right _ (List.mem_cons_self ..)
    · rw [← List.take_append_drop (posI x l) l] at h
      rcases List.mem_append.1 h with h | h
      · exact List.mem_append_left _ h
      · exact List.mem_append_right _ (List.mem_cons_of_mem _ h)

theorem mem_add {t x : Int} {l : List Int} : t ∈ addT x l ↔ t = x ∨ t ∈ l := by
  unfold addT
  split
  · rename_i h
    constructor
    · exact Or.inr
    · rintro (rfl | h2)
      · exact h
      · exact h2
  · exact mem_ins

/-- Numbers that ascend. -/
abbrev Asc (l : List Int) : Prop := l.Pairwise (· < ·)

theorem asc_ins {x : Int} {l : List Int} (h : Asc l) (hx : x ∉ l) : Asc (insI x l) := by
  induction l with
  | nil => simp [insI]
  | cons a t ih =>
    have ha := List.pairwise_cons.1 h
    have hxa : x ≠ a := fun e => hx (by rw [e]; exact List.mem_cons_self ..)
    by_cases hl : a < x
    · have e1 : insI x (a :: t) = a :: insI x t := if_pos hl
      rw [e1]
      refine List.pairwise_cons.2 ⟨fun y hy => ?_, ih ha.2 fun h2 => hx (List.mem_cons_of_mem _ h2)⟩
      rcases mem_ins.1 hy with rfl | hy
      · exact hl
      · exact ha.1 y hy
    · have e1 : insI x (a :: t) = x :: a :: t := if_neg hl
      rw [e1]
      refine List.pairwise_cons.2 ⟨fun y hy => ?_, h⟩
      rcases List.mem_cons.1 hy with rfl | hy
      · omega
      · have := ha.1 y hy
        omega

theorem asc_add {x : Int} {l : List Int} (h : Asc l) : Asc (addT x l) := by
  unfold addT
  split
  · exact h
  · rename_i hx
    exact asc_ins h hx

theorem dblK_asc {l : List Ct} {x : Ct} {out : List Int} (h : Asc out) : ∀ m, m ≤ l.length → Asc (dblK l x m out) := by
  intro m
  induction m with
  | zero => intro _; exact h
  | succ m ih =>
    intro hm
    rw [dblK_step (by omega)]
    split
    · exact asc_add (ih (by omega))
    · exact ih (by omega)

theorem dblI_asc (l : List Ct) : ∀ i, i ≤ l.length → Asc (dblI l i) := by
  intro i
  induction i with
  | zero => intro _; simp [dblI]
  | succ i ih =>
    intro hi
    rw [dblI_step (by omega)]
    exact dblK_asc (ih (by omega)) i (by omega)

theorem dblK_mem {l : List Ct} {x : Ct} {out : List Int} {t : Int} : ∀ m, m ≤ l.length → (t ∈ dblK l x m out ↔ t ∈ out ∨ (t = x.tk ∧ ∃ b, ∃ h : b < l.length, b < m ∧ dblOk x l[b] = true)) := by
  intro m
  induction m with
  | zero => intro _; simp [dblK]
  | succ m ih =>
    intro hm
    rw [dblK_step (by omega)]
    by_cases hd : dblOk x l[m] = true
    · rw [if_pos hd, mem_add, ih (by omega)]
      constructor
      · rintro (rfl | h | ⟨h, b, hb, hbm, h2⟩)
        · exact Or.inr ⟨rfl, m, by omega, by omega, hd⟩
        · exact Or.inl h
        · exact Or.inr ⟨h, b, hb, by omega, h2⟩
      · rintro (h | ⟨h, b, hb, hbm, h2⟩)
        · exact Or.inr (Or.inl h)
        · exact Or.inl h
    · rw [if_neg hd, ih (by omega)]
      constructor
      · rintro (h | ⟨h, b, hb, hbm, h2⟩)
        · exact Or.inl h
        · exact Or.inr ⟨h, b, hb, by omega, h2⟩
      · rintro (h | ⟨h, b, hb, hbm, h2⟩)
        · exact Or.inl h
        · refine Or.inr ⟨h, b, hb, ?_, h2⟩
          by_cases e : b = m
          · subst e; exact absurd h2 hd
          · omega

theorem dblI_mem {l : List Ct} {t : Int} : ∀ i, i ≤ l.length → (t ∈ dblI l i ↔ ∃ a, ∃ ha : a < l.length, a < i ∧ l[a].tk = t ∧ ∃ b, ∃ hb : b < l.length, b < a ∧ dblOk l[a] l[b] = true) := by
  intro i
  induction i with
  | zero => intro _; simp [dblI]
  | succ i ih =>
    intro hi
    rw [dblI_step (by omega), dblK_mem i (by omega), ih (by omega)]
    constructor
    · rintro (⟨a, ha, h1, h2, h3⟩ | ⟨h, b, hb, h1, h2⟩)
      · exact ⟨a, ha, by omega, h2, h3⟩
      · exact ⟨i, by omega, by omega, h.symm, b, hb, h1, h2⟩
    · rintro ⟨a, ha, h1, h2, b, hb, h3, h4⟩
      by_cases e : a = i
      · subst e; exact Or.inr ⟨h2.symm, b, hb, h3, h4⟩
      · exact Or.inl ⟨a, ha, by omega, h2, b, hb, h3, h4⟩

theorem asc_one : ∀ {l m : List Int}, Asc l → Asc m → (∀ t, t ∈ l ↔ t ∈ m) → l = m := by
  intro l
  induction l with
  | nil =>
    intro m _ _ h
    cases m with
    | nil => rfl
    | cons b t => exact absurd ((h b).2 (List.mem_cons_self ..)) (by simp)
  | cons a l ih =>
    intro m hl hm h
    cases m with
    | nil => exact absurd ((h a).1 (List.mem_cons_self ..)) (by simp)
    | cons b m =>
      have hl2 := List.pairwise_cons.1 hl
      have hm2 := List.pairwise_cons.1 hm
      have hab : a = b := by
        have h1 := (h a).1 (List.mem_cons_self ..)
        have h2 := (h b).2 (List.mem_cons_self ..)
        rcases List.mem_cons.1 h1 with h1 | h1
        · exact h1
        · rcases List.mem_cons.1 h2 with h2 | h2
          · exact h2.symm
          · have := hm2.1 a h1
            have := hl2.1 b h2
            omega
      subst hab
      refine congrArg _ (ih hl2.2 hm2.2 fun t => ?_)
      constructor
      · intro ht
        rcases List.mem_cons.1 ((h t).1 (List.mem_cons_of_mem _ ht)) with e | e
        · have := hl2.1 t ht; omega
        · exact e
      · intro ht
        rcases List.mem_cons.1 ((h t).2 (List.mem_cons_of_mem _ ht)) with e | e
        · have := hm2.1 t ht; omega
        · exact e

theorem dblK_len (l : List Ct) (x : Ct) (out : List Int) : ∀ m, (dblK l x m out).length ≤ out.length + 1 := by
  intro m
  have key : dblK l x m out = out ∨ dblK l x m out = addT x.tk out := by
    induction m with
    | zero => exact Or.inl rfl
    | succ m ih =>
      rw [dblK]
      split
      · exact ih
      · split
        · rcases ih with h | h
          · rw [h]; exact Or.inr rfl
          · rw [h]
            refine Or.inr ?_
            show (if x.tk ∈ addT x.tk out then addT x.tk out else _) = _
            rw [if_pos (mem_add.2 (Or.inl rfl))]
        · exact ih
  rcases key with h | h
  · rw [h]; omega
  · rw [h]
    unfold addT
    split
    · omega
    · rw [ins_len]; omega

theorem dblI_len (l : List Ct) : ∀ i, (dblI l i).length ≤ i := by
  intro i
  induction i with
  | zero => simp [dblI]
  | succ i ih =>
    rw [dblI]
    split
    · omega
    · have := dblK_len l (by assumption) (dblI l i) i
      omega

end Hn
end Go.Proofs.Ytbmfhdlbbaabgaa

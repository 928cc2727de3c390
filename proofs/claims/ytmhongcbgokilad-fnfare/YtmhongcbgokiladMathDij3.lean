/- The model's search, as mathematics: what its rounds keep. -/
import Derived.Test.YtmhongcbgokiladMathDij
namespace Go.Proofs.Ytmhongcbgokilad
namespace Tf

theorem ahead_is (x y : Wy) : ahead x y = if x.c ≠ y.c then decide (x.c < y.c) else if x.s.length ≠ y.s.length then decide ((x.s.length : Int) < (y.s.length : Int)) else lexL x.s y.s := by
  have e : ahead x y = (decide (x.c < y.c) || (decide (x.c = y.c) && (decide ((x.s.length : Int) < (y.s.length : Int)) || (decide ((x.s.length : Int) = (y.s.length : Int)) && lexL x.s y.s)))) := by simp only [ahead, lexL]
  rw [e]
  by_cases h1 : x.c = y.c
  · rw [if_neg (fun h => h h1), decide_eq_true h1, decide_eq_false (by omega : ¬ x.c < y.c)]
    by_cases h2 : x.s.length = y.s.length
    · rw [if_neg (fun h => h h2), decide_eq_true (by omega : (x.s.length : Int) = (y.s.length : Int)), decide_eq_false (by omega : ¬ (x.s.length : Int) < (y.s.length : Int))]
      rfl
    · rw [if_pos h2, decide_eq_false (by omega : ¬ (x.s.length : Int) = (y.s.length : Int))]
      simp
  · rw [if_pos h1, decide_eq_false h1]
    simp

theorem lex_here {a b : List Int} {k : Nat} (h1 : k < a.length) (h2 : k < b.length) (hne : a[k] ≠ b[k]) : lexL (a.drop k) (b.drop k) = decide (a[k] < b[k]) := by
  rw [List.drop_eq_getElem_cons h1, List.drop_eq_getElem_cons h2]
  simp [lexL, hne]

theorem lex_on {a b : List Int} {k : Nat} (h1 : k < a.length) (h2 : k < b.length) (he : a[k] = b[k]) : lexL (a.drop k) (b.drop k) = lexL (a.drop (k + 1)) (b.drop (k + 1)) := by
  rw [List.drop_eq_getElem_cons h1, List.drop_eq_getElem_cons h2]
  simp [lexL, he]

theorem lex_end {a b : List Int} {k : Nat} (h1 : a.length ≤ k) (h : a.length = b.length) : lexL (a.drop k) (b.drop k) = false := by
  rw [List.drop_eq_nil_of_le h1, List.drop_eq_nil_of_le (by omega)]
  rfl

/-- One edge more on the list of open ways. -/
def pushS (d : List Int) (m : Wy) (l : List Wy) (e : Ed) : List Wy := if oth e (endW m) ≠ 0 ∧ oth e (endW m) ∉ d then l ++ [ovr m e.co (oth e (endW m))] else l
def pushF (d : List Int) (m : Wy) (l : List Wy) (E : List Ed) : List Wy := E.foldl (pushS d m) l

theorem push_take (d : List Int) (m : Wy) (l : List Wy) (E : List Ed) (k : Nat) (hk : k < E.length) : pushF d m l (E.take (k + 1)) = pushS d m (pushF d m l (E.take k)) E[k] := by
  unfold pushF
  rw [List.take_add_one, List.getElem?_eq_getElem hk, List.foldl_append]
  rfl

theorem push_len (d : List Int) (m : Wy) : ∀ (E : List Ed) (l : List Wy), (pushF d m l E).length ≤ l.length + E.length
  | [], l => by simp [pushF]
  | e :: r, l => by
    have := push_len d m r (pushS d m l e)
    have h2 : (pushS d m l e).length ≤ l.length + 1 := by
      unfold pushS
      split
      · simp
      · omega
    show (pushF d m (pushS d m l e) r).length ≤ _
    simp
    omega

theorem push_old (d : List Int) (m : Wy) : ∀ (E : List Ed) (l : List Wy) {o : Wy}, o ∈ l → o ∈ pushF d m l E
  | [], _, _, h => h
  | e :: r, l, o, h => push_old d m r (pushS d m l e) (by
    unfold pushS
    split
    · simp [h]
    · exact h)

theorem push_new (d : List Int) (m : Wy) : ∀ (E : List Ed) (l : List Wy) {e : Ed}, e ∈ E → oth e (endW m) ≠ 0 → oth e (endW m) ∉ d → ovr m e.co (oth e (endW m)) ∈ pushF d m l E
  | [], _, _, h, _, _ => by simp at h
  | x :: r, l, e, h, h1, h2 => by
    rcases List.mem_cons.1 h with h | h
    · subst h
      exact push_old d m r _ (by unfold pushS; rw [if_pos ⟨h1, h2⟩]; simp)
    · exact push_new d m r _ h h1 h2

theorem push_src (d : List Int) (m : Wy) : ∀ (E : List Ed) (l : List Wy) {o : Wy}, o ∈ pushF d m l E → o ∈ l ∨ ∃ e ∈ E, oth e (endW m) ≠ 0 ∧ oth e (endW m) ∉ d ∧ o = ovr m e.co (oth e (endW m))
  | [], _, _, h => Or.inl h
  | e :: r, l, o, h => by
    rcases push_src d m r (pushS d m l e) h with h1 | ⟨x, h1, h2⟩
    · unfold pushS at h1
      split at h1
      · rename_i hc
        rcases List.mem_append.1 h1 with h1 | h1
        · exact Or.inl h1
        · exact Or.inr ⟨e, by simp, hc.1, hc.2, by simpa using h1⟩
      · exact Or.inl h1
    · exact Or.inr ⟨x, by simp [h1], h2⟩

theorem oth_hasS {e : Ed} {s : Int} (h : edB e = true) : hasS e s = true ↔ oth e s ≠ 0 := by
  have := ed_is h
  unfold hasS oth
  by_cases h1 : e.ea = s
  · simp [h1]; omega
  · by_cases h2 : e.eb = s
    · simp [h1, h2]; omega
    · simp [h1, h2]

/-- What the rounds of the model's search keep. -/
structure JSt (E : List Ed) (a : Int) (l : List Wy) (d : List Int) (G : Int → Option Wy) : Prop where
  inv : Inv E a G (fun o => o ∈ l)
  done : ∀ s, (G s).isSome = true ↔ s ∈ d
  bd : ∀ o, o ∈ l → o.s.length ≤ d.length + 1 ∧ 0 ≤ o.c ∧ o.c ≤ 1000000 * (d.length : Int)
  clock : d.length + lft (stn E a) G ≤ (stn E a).length

theorem jst_start (E : List Ed) (a : Int) : JSt E a [⟨0, [a]⟩] [] (fun _ => none) where
  inv := inv_start E a _ fun o => by simp
  done := fun s => by simp
  bd := fun o h => by
    simp at h
    subst h
    simp
  clock := by
    have := lft_le (stn E a) (fun _ => none)
    simp
    omega

theorem JSt.pop {E : List Ed} {a : Int} {l : List Wy} {d : List Int} {G : Int → Option Wy} (S : JSt E a l d G) (hE : ∀ e ∈ E, edB e = true) {m : Wy} (hm : m ∈ l) (hmin : ∀ o ∈ l, le m o) (hd : endW m ∉ d) : isBest E a (endW m) m :=
  S.inv.pop hE hm (by
    cases h : G (endW m)
    · rfl
    · exact (hd ((S.done _).1 (by rw [h]; rfl))).elim) hmin

/-- A list without its k-th. -/
def cutAt (l : List Wy) (k : Nat) : List Wy := l.take k ++ l.drop (k + 1)

theorem mem_cut {l : List Wy} {k : Nat} {o : Wy} (h : o ∈ cutAt l k) : o ∈ l := by
  rcases List.mem_append.1 h with h | h
  · exact List.mem_of_mem_take h
  · exact List.mem_of_mem_drop h

theorem cut_mem {l : List Wy} {k : Nat} (hk : k < l.length) {o : Wy} (h : o ∈ l) : o = l[k] ∨ o ∈ cutAt l k := by
  obtain ⟨i, hi, rfl⟩ := List.getElem_of_mem h
  rcases Nat.lt_trichotomy i k with h1 | h1 | h1
  · right
    refine List.mem_append.2 (Or.inl ?_)
    rw [List.mem_take_iff_getElem]
    exact ⟨i, by omega, rfl⟩
  · subst h1
    exact Or.inl rfl
  · right
    refine List.mem_append.2 (Or.inr ?_)
    rw [List.mem_drop_iff_getElem]
    exact ⟨i - (k + 1), by omega, by congr 1; omega⟩

theorem cut_len {l : List Wy} {k : Nat} (hk : k < l.length) : (cutAt l k).length + 1 = l.length := by
  unfold cutAt
  simp
  omega

theorem JSt.skip {E : List Ed} {a : Int} {l : List Wy} {d : List Int} {G : Int → Option Wy} (S : JSt E a l d G) {k : Nat} (hk : k < l.length) (hd : endW l[k] ∈ d) : JSt E a (cutAt l k) d G where
  inv := S.inv.skip (fun o h => mem_cut h) (fun o h => by
    rcases cut_mem hk h with h1 | h1
    · left
      rw [h1]
      exact (S.done _).2 hd
    · exact Or.inr h1)
  done := S.done
  bd := fun o h => S.bd o (mem_cut h)
  clock := S.clock

theorem JSt.next {E : List Ed} {a : Int} {l : List Wy} {d : List Int} {G : Int → Option Wy} (S : JSt E a l d G) (hE : ∀ e ∈ E, edB e = true) {k : Nat} (hk : k < l.length) (hmin : ∀ o ∈ l, le l[k] o) (hd : endW l[k] ∉ d) :
    JSt E a (pushF (d ++ [endW l[k]]) l[k] (cutAt l k) E) (d ++ [endW l[k]]) (setG G (endW l[k]) l[k]) := by
  have hm : l[k] ∈ l := List.getElem_mem hk
  have hb := S.pop hE hm hmin hd
  have hbd := S.bd _ hm
  generalize hmm : l[k] = m at *
  have hG : ∀ s, (setG G (endW m) m s).isSome = true ↔ s ∈ d ++ [endW m] := by
    intro s
    by_cases e : s = endW m
    · subst e
      rw [setG_same]
      simp
    · rw [setG_other G m e, S.done s]
      simp [e]
  refine ⟨?_, hG, ?_, ?_⟩
  · refine S.inv.next hb ?_ ?_ ?_
    · intro o ho
      rcases push_src _ _ _ _ ho with h | ⟨e, he, h1, -, rfl⟩
      · exact S.inv.ways o (mem_cut h)
      · exact isWay.step hb.1 he ((oth_hasS (hE e he)).2 h1)
    · intro o ho
      rcases cut_mem hk ho with h | h
      · left
        rw [h, hmm, setG_same]
        rfl
      · exact Or.inr ⟨o, push_old _ _ _ _ h, rfl, le_refl _⟩
    · intro e he hs
      by_cases hin : oth e (endW m) ∈ d ++ [endW m]
      · exact Or.inl ((hG _).2 hin)
      · exact Or.inr ⟨_, push_new _ _ _ _ he ((oth_hasS (hE e he)).1 hs) hin, end_ovr _ _ _, le_refl _⟩
  · intro o ho
    rcases push_src _ _ _ _ ho with h | ⟨e, he, -, -, rfl⟩
    · have := S.bd o (mem_cut h)
      simp
      omega
    · have := ed_is (hE e he)
      simp [ovr]
      omega
  · have h1 : endW m ∈ stn E a := way_end hb.1
    have hg0 : G (endW m) = none := by
      cases h : G (endW m)
      · rfl
      · exact (hd ((S.done _).1 (by rw [h]; rfl))).elim
    have h2 := lft_set (stn E a) G (endW m) m h1 hg0
    have := S.clock
    simp
    omega

theorem JSt.none {E : List Ed} {a b : Int} {d : List Int} {G : Int → Option Wy} (S : JSt E a [] d G) (hE : ∀ e ∈ E, edB e = true) (hb : b ∉ d) : ∀ w, isWay E a w → endW w ≠ b :=
  S.inv.none hE (fun o h => by simp at h) (by
    cases h : G b
    · rfl
    · exact (hb ((S.done _).1 (by rw [h]; rfl))).elim)

end Tf
end Go.Proofs.Ytmhongcbgokilad

/- The program's search, as mathematics: what its rounds keep. -/
import Derived.Test.YtmhongcbgokiladTfGoOn
namespace Go.Proofs.Ytmhongcbgokilad
namespace Tf

theorem off_cover (G F : Int → Option Wy) (o : Wy) : (G (endW o)).isSome = true ∨ ∃ p, offF G F o (endW o) = some p ∧ le p o := by
  cases hg : (G (endW o)).isSome
  · right
    cases hF : F (endW o) with
    | none => exact ⟨o, by rw [off_none hg hF]; simp [setF], le_refl _⟩
    | some b =>
      cases ha : ahead o b
      · exact ⟨b, by rw [off_no hg hF ha]; exact hF, ha⟩
      · exact ⟨o, by rw [off_yes hg hF ha]; simp [setF], le_refl _⟩
  · exact Or.inl rfl

theorem off_mono (G F : Int → Option Wy) (o : Wy) {j : Int} {q : Wy} (h : F j = some q) : ∃ q', offF G F o j = some q' ∧ le q' q := by
  cases hg : (G (endW o)).isSome
  · cases hF : F (endW o) with
    | none =>
      rw [off_none hg hF]
      by_cases e : j = endW o
      · rw [e, hF] at h; cases h
      · exact ⟨q, by simp [setF, e, h], le_refl _⟩
    | some b =>
      cases ha : ahead o b
      · exact ⟨q, by rw [off_no hg hF ha]; exact h, le_refl _⟩
      · rw [off_yes hg hF ha]
        by_cases e : j = endW o
        · rw [e, hF] at h
          cases h
          exact ⟨o, by simp [setF, e], le_of_ahead ha⟩
        · exact ⟨q, by simp [setF, e, h], le_refl _⟩
  · exact ⟨q, by rw [off_gone hg]; exact h, le_refl _⟩

theorem off_src {G F : Int → Option Wy} {o q : Wy} {j : Int} (h : offF G F o j = some q) : F j = some q ∨ (q = o ∧ j = endW o ∧ G j = none) := by
  have hs : (G (endW o)).isSome = false → setF F (endW o) (some o) j = some q → F j = some q ∨ (q = o ∧ j = endW o ∧ G j = none) := by
    intro hg
    unfold setF
    split
    · rename_i e
      intro h
      cases h
      refine Or.inr ⟨rfl, e, ?_⟩
      rw [e]
      cases hG : G (endW o)
      · rfl
      · rw [hG] at hg; cases hg
    · intro h; exact Or.inl h
  cases hg : (G (endW o)).isSome
  · cases hF : F (endW o) with
    | none => rw [off_none hg hF] at h; exact hs hg h
    | some b =>
      cases ha : ahead o b
      · rw [off_no hg hF ha] at h; exact Or.inl h
      · rw [off_yes hg hF ha] at h; exact hs hg h
  · rw [off_gone hg] at h; exact Or.inl h

theorem go_mono (G : Int → Option Wy) (m : Wy) : ∀ (E : List Ed) (F : Int → Option Wy) {j : Int} {q : Wy}, F j = some q → ∃ q', goF G m F E j = some q' ∧ le q' q
  | [], F, j, q, h => ⟨q, h, le_refl _⟩
  | e :: r, F, j, q, h => by
    have h1 : ∃ q1, stepF G m F e j = some q1 ∧ le q1 q := by
      unfold stepF
      split
      · exact off_mono _ _ _ h
      · exact ⟨q, h, le_refl _⟩
    obtain ⟨q1, h2, h3⟩ := h1
    obtain ⟨q', h4, h5⟩ := go_mono G m r (stepF G m F e) h2
    exact ⟨q', h4, le_trans h5 h3⟩

theorem go_cover (G : Int → Option Wy) (m : Wy) : ∀ (E : List Ed) (F : Int → Option Wy) (e : Ed), e ∈ E → hasS e (endW m) = true → (G (oth e (endW m))).isSome = true ∨ ∃ p, goF G m F E (oth e (endW m)) = some p ∧ le p (ovr m e.co (oth e (endW m)))
  | [], _, e, he, _ => by simp at he
  | x :: r, F, e, he, hs => by
    rcases List.mem_cons.1 he with h | h
    · subst h
      have h1 := off_cover G F (ovr m e.co (oth e (endW m)))
      rw [end_ovr] at h1
      rcases h1 with h1 | ⟨p, h2, h3⟩
      · exact Or.inl h1
      · have h4 : stepF G m F e (oth e (endW m)) = some p := by unfold stepF; rw [if_pos hs]; exact h2
        obtain ⟨q', h5, h6⟩ := go_mono G m r (stepF G m F e) h4
        exact Or.inr ⟨q', h5, le_trans h6 h3⟩
    · exact go_cover G m r (stepF G m F x) e h hs

theorem go_src (G : Int → Option Wy) (m : Wy) : ∀ (E : List Ed) (F : Int → Option Wy) {j : Int} {q : Wy}, goF G m F E j = some q → F j = some q ∨ ∃ e ∈ E, hasS e (endW m) = true ∧ q = ovr m e.co (oth e (endW m)) ∧ j = oth e (endW m) ∧ G j = none
  | [], _, _, _, h => Or.inl h
  | e :: r, F, j, q, h => by
    rcases go_src G m r (stepF G m F e) h with h1 | ⟨x, h1, h2⟩
    · unfold stepF at h1
      split at h1
      · rename_i hs
        rcases off_src h1 with h3 | ⟨h3, h4, h5⟩
        · exact Or.inl h3
        · rw [end_ovr] at h4
          exact Or.inr ⟨e, by simp, hs, h3, h4, h5⟩
      · exact Or.inl h1
    · exact Or.inr ⟨x, by simp [h1], h2⟩

/-- What the rounds of the program's search keep. -/
structure ISt (E : List Ed) (a : Int) (F G : Int → Option Wy) (r : Nat) : Prop where
  inv : Inv E a G (fun o => ∃ k, F k = some o)
  key : ∀ k o, F k = some o → endW o = k ∧ G k = none ∧ 1 ≤ k ∧ k ≤ 9999
  bd : ∀ k o, F k = some o → o.s.length ≤ r + 1 ∧ 0 ≤ o.c ∧ o.c ≤ 1000000 * (r : Int)
  clock : r + lft (stn E a) G ≤ (stn E a).length

def F0 (a : Int) : Int → Option Wy := setF (fun _ => none) a (some ⟨0, [a]⟩)

theorem ist_start (E : List Ed) (a : Int) (ha : 1 ≤ a ∧ a ≤ 9999) : ISt E a (F0 a) (fun _ => none) 0 where
  inv := inv_start E a _ fun o => by
    constructor
    · rintro ⟨k, h⟩
      unfold F0 setF at h
      split at h
      · cases h; rfl
      · cases h
    · rintro rfl
      exact ⟨a, by simp [F0, setF]⟩
  key := fun k o h => by
    unfold F0 setF at h
    split at h
    · rename_i e
      cases h
      exact ⟨by simp [endW, e], rfl, by omega, by omega⟩
    · cases h
  bd := fun k o h => by
    unfold F0 setF at h
    split at h
    · cases h; simp
    · cases h
  clock := by
    have := lft_le (stn E a) (fun _ => none)
    omega

theorem ISt.pop {E : List Ed} {a : Int} {F G : Int → Option Wy} {r : Nat} (S : ISt E a F G r) (hE : ∀ e ∈ E, edB e = true) {k : Int} {m : Wy} (hk : F k = some m) (hmin : ∀ j p, F j = some p → le m p) : isBest E a k m := by
  obtain ⟨h1, h2, -⟩ := S.key k m hk
  have := S.inv.pop hE (m := m) ⟨k, hk⟩ (by rw [h1]; exact h2) (fun o ⟨j, hj⟩ => hmin j o hj)
  rwa [h1] at this

theorem ISt.next {E : List Ed} {a : Int} {F G : Int → Option Wy} {r : Nat} (S : ISt E a F G r) (hE : ∀ e ∈ E, edB e = true) {k : Int} {m : Wy} (hk : F k = some m) (hmin : ∀ j p, F j = some p → le m p) :
    ISt E a (goF (setG G k m) m (setF F k none) E) (setG G k m) (r + 1) := by
  have hb := S.pop hE hk hmin
  obtain ⟨hek, hGk, hk1, hk2⟩ := S.key k m hk
  obtain ⟨hl, hc0, hc1⟩ := S.bd k m hk
  have hkey : ∀ j o, goF (setG G k m) m (setF F k none) E j = some o → endW o = j ∧ setG G k m j = none ∧ 1 ≤ j ∧ j ≤ 9999 := by
    intro j o ho
    rcases go_src _ _ _ _ ho with h | ⟨e, he, hs, rfl, hj, hg⟩
    · unfold setF at h
      split at h
      · cases h
      · rename_i hne
        obtain ⟨h1, h2, h3⟩ := S.key j o h
        exact ⟨h1, by rw [setG_other G m hne]; exact h2, h3⟩
    · have := oth_ok (hE e he) hs
      exact ⟨by rw [end_ovr, hj], hg, by rw [hj]; exact this.1, by rw [hj]; exact this.2⟩
  refine ⟨?_, hkey, ?_, ?_⟩
  · have hb' : isBest E a (endW m) m := by rw [hek]; exact hb
    have := S.inv.next (m := m) (O' := fun o => ∃ j, goF (setG G k m) m (setF F k none) E j = some o) hb' ?_ ?_ ?_
    · rwa [hek] at this
    · rintro o ⟨j, hj⟩
      rcases go_src _ _ _ _ hj with h | ⟨e, he, hs, rfl, -, -⟩
      · unfold setF at h
        split at h
        · cases h
        · exact S.inv.ways o ⟨j, h⟩
      · exact isWay.step hb.1 he hs
    · rintro o ⟨j, hj⟩
      have hej := (S.key j o hj).1
      by_cases e : j = k
      · left
        rw [hej, e, hek, setG_same]
        rfl
      · right
        have h1 : setF F k none j = some o := by unfold setF; rw [if_neg e]; exact hj
        obtain ⟨q', h2, h3⟩ := go_mono (setG G k m) m E _ h1
        exact ⟨q', ⟨j, h2⟩, by rw [(hkey j q' h2).1, hej], h3⟩
    · intro e he hs
      rcases go_cover (setG G k m) m E (setF F k none) e he hs with h | ⟨p, h1, h2⟩
      · left
        rw [hek] at h ⊢
        exact h
      · exact Or.inr ⟨p, ⟨_, h1⟩, (hkey _ p h1).1, h2⟩
  · intro j o ho
    rcases go_src _ _ _ _ ho with h | ⟨e, he, hs, rfl, -, -⟩
    · unfold setF at h
      split at h
      · cases h
      · obtain ⟨h1, h2, h3⟩ := S.bd j o h
        exact ⟨by omega, h2, by omega⟩
    · have := ed_is (hE e he)
      simp only [ovr, List.length_append, List.length_cons, List.length_nil]
      exact ⟨by omega, by omega, by omega⟩
  · have h1 : k ∈ stn E a := by rw [← hek]; exact way_end hb.1
    have h2 := lft_set (stn E a) G k m h1 hGk
    have := S.clock
    omega

theorem ISt.none {E : List Ed} {a b : Int} {F G : Int → Option Wy} {r : Nat} (S : ISt E a F G r) (hE : ∀ e ∈ E, edB e = true) (hF : ∀ k, F k = none) (hb : G b = none) : ∀ w, isWay E a w → endW w ≠ b :=
  S.inv.none hE (fun o ⟨k, hk⟩ => by rw [hF k] at hk; cases hk) hb

end Tf
end Go.Proofs.Ytmhongcbgokilad

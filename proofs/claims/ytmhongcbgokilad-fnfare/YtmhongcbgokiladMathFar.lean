/- What ways over edges cost, joined, turned round, and held against the best one. -/
import Derived.Test.YtmhongcbgokiladMathBase
namespace Go.Proofs.Ytmhongcbgokilad
namespace Tf

theorem le_cost {x y : Wy} (h : le x y) : x.c ≤ y.c := by
  unfold le ahead at h
  simp [lexL] at h
  omega

/-- What the cheapest edge between two is, so far. -/
theorem leF_is {a b : Int} : ∀ (l : List Ed) (acc : Int), -1 ≤ acc → (∀ e ∈ l, edB e = true) →
    (l.foldl (leS a b) acc = acc ∨ ∃ e ∈ l, hasS e a = true ∧ oth e a = b ∧ e.co = l.foldl (leS a b) acc) ∧
    (acc ≠ -1 → l.foldl (leS a b) acc ≠ -1 ∧ l.foldl (leS a b) acc ≤ acc) ∧
    ∀ e ∈ l, hasS e a = true → oth e a = b → l.foldl (leS a b) acc ≠ -1 ∧ l.foldl (leS a b) acc ≤ e.co
  | [], acc, h, _ => ⟨Or.inl rfl, fun h => ⟨h, Int.le_refl _⟩, fun e he => by cases he⟩
  | e :: r, acc, h, he => by
    have h0 := ed_is (he e (by simp))
    have hs : -1 ≤ leS a b acc e := by unfold leS; split <;> omega
    obtain ⟨i1, i2, i3⟩ := leF_is r (leS a b acc e) hs (fun x hx => he x (by simp [hx]))
    rw [List.foldl_cons]
    by_cases hc : (hasS e a && (oth e a == b)) = true ∧ (acc = -1 ∨ e.co < acc)
    · have e1 : leS a b acc e = e.co := if_pos hc
      rw [e1] at i1 i2 i3 ⊢
      have hc1 := hc.1
      simp at hc1
      obtain ⟨j1, j2⟩ := i2 (by omega)
      refine ⟨Or.inr ?_, fun h9 => ⟨j1, by omega⟩, fun x hx h8 h9 => ?_⟩
      · rcases i1 with i1 | ⟨x, hx, h1, h2, h3⟩
        · exact ⟨e, by simp, hc1.1, hc1.2, i1.symm⟩
        · exact ⟨x, by simp [hx], h1, h2, h3⟩
      · rcases List.mem_cons.1 hx with rfl | hx
        · exact ⟨j1, j2⟩
        · exact i3 x hx h8 h9
    · have e1 : leS a b acc e = acc := if_neg hc
      rw [e1] at i1 i2 i3 ⊢
      refine ⟨?_, i2, fun x hx h8 h9 => ?_⟩
      · rcases i1 with i1 | ⟨x, hx, h1, h2, h3⟩
        · exact Or.inl i1
        · exact Or.inr ⟨x, by simp [hx], h1, h2, h3⟩
      · rcases List.mem_cons.1 hx with rfl | hx
        · have h7 : (hasS x a && (oth x a == b)) = true := by simp [h8, h9]
          have h6 : ¬ (acc = -1 ∨ x.co < acc) := fun h => hc ⟨h7, h⟩
          obtain ⟨j1, j2⟩ := i2 (by omega)
          exact ⟨j1, by omega⟩
        · exact i3 x hx h8 h9

theorem leV_some {l : List Ed} {a b : Int} (he : ∀ e ∈ l, edB e = true) (h : leV l a b ≠ -1) : ∃ e ∈ l, hasS e a = true ∧ oth e a = b ∧ e.co = leV l a b :=
  (leF_is l (-1) (by omega) he).1.resolve_left h

theorem leV_le {l : List Ed} {a b : Int} (he : ∀ e ∈ l, edB e = true) {e : Ed} (h : e ∈ l) (h1 : hasS e a = true) (h2 : oth e a = b) : leV l a b ≠ -1 ∧ leV l a b ≤ e.co :=
  (leF_is l (-1) (by omega) he).2.2 e h h1 h2

/-- What a list of stations costs is what some way costs. -/
theorem way_of {l : List Ed} (he : ∀ e ∈ l, edB e = true) {a : Int} : ∀ (r : List Int) (b : Int) (w : Wy), isWay l a w → endW w = b → 0 ≤ costF l w.c (b :: r) →
    ∃ w', isWay l a w' ∧ w'.c = costF l w.c (b :: r) ∧ endW w' = (b :: r).getLastD 0 ∧ (r ≠ [] → 1 ≤ endW w' ∧ endW w' ≤ 9999)
  | [], b, w, hw, hb, _ => ⟨w, hw, rfl, by simp [hb], fun h => absurd rfl h⟩
  | n :: r, b, w, hw, hb, h => by
    unfold costF at h ⊢
    by_cases h1 : leV l b n = -1
    · rw [if_pos h1] at h
      omega
    · rw [if_neg h1] at h ⊢
      obtain ⟨e, h2, h3, h4, h5⟩ := leV_some he h1
      have hs := isWay.step hw h2 (by rw [hb]; exact h3)
      rw [hb, h4, h5] at hs
      obtain ⟨w', g1, g2, g3, g4⟩ := way_of he r n (ovr w (leV l b n) n) hs (end_ovr _ _ _) h
      refine ⟨w', g1, g2, by rw [g3]; simp, fun _ => ?_⟩
      cases r with
      | nil =>
        rw [g3]
        have := ed_is (he e h2)
        unfold oth at h4
        simp
        split at h4
        · omega
        · split at h4
          · omega
          · rename_i k1 k2
            simp [hasS, k1, k2] at h3
      | cons m r => exact g4 (by simp)

theorem costF_snoc {l : List Ed} (he : ∀ e ∈ l, edB e = true) (n : Int) : ∀ (r : List Int) (b s : Int), 0 ≤ s → 0 ≤ costF l s (b :: r) → leV l ((b :: r).getLastD 0) n ≠ -1 →
    costF l s (b :: r ++ [n]) = costF l s (b :: r) + leV l ((b :: r).getLastD 0) n
  | [], b, s, _, _, h => by
    simp at h ⊢
    simp [costF, h]
  | m :: r, b, s, hs, h, hn => by
    simp only [List.cons_append]
    unfold costF at h ⊢
    by_cases h1 : leV l b m = -1
    · rw [if_pos h1] at h
      omega
    · rw [if_neg h1] at h ⊢
      rw [if_neg h1]
      have hl := leV_lo l b m he
      have := costF_snoc he n r m (s + leV l b m) (by omega) h (by simpa using hn)
      simpa using this

/-- A way is no cheaper than its stations. -/
theorem way_list {l : List Ed} (he : ∀ e ∈ l, edB e = true) {a : Int} {w : Wy} (hw : isWay l a w) : ∃ r, w.s = a :: r ∧ 0 ≤ costF l 0 w.s ∧ costF l 0 w.s ≤ w.c := by
  induction hw with
  | nil => exact ⟨[], rfl, by simp [costF], by simp [costF]⟩
  | @step w e hw h1 h2 ih =>
    obtain ⟨r, h3, h4, h5⟩ := ih
    obtain ⟨g1, g2⟩ := leV_le he h1 h2 rfl
    have hl := leV_lo l (endW w) (oth e (endW w)) he
    refine ⟨r ++ [oth e (endW w)], by simp [ovr, h3], ?_⟩
    have e1 : (ovr w e.co (oth e (endW w))).s = a :: r ++ [oth e (endW w)] := by simp [ovr, h3]
    have e2 : (a :: r).getLastD 0 = endW w := by unfold endW; rw [h3]
    rw [h3] at h4 h5
    rw [e1, costF_snoc he _ r a 0 (by omega) h4 (by rw [e2]; exact g1), e2]
    refine ⟨by omega, ?_⟩
    show _ ≤ w.c + e.co
    omega

theorem best_cost {l : List Ed} (hl : tarB l = true) {a b : Int} {m : Wy} (h : isBest l a b m) : wayC l m.s = m.c ∧ (∃ r, m.s = a :: r) ∧ m.s.getLastD 0 = b := by
  have he := (tar_is hl).2
  obtain ⟨h1, h2, h3⟩ := h
  obtain ⟨r, g1, g2, g3⟩ := way_list he h1
  refine ⟨?_, ⟨r, g1⟩, h2⟩
  unfold wayC
  rw [if_pos ⟨hl, by rw [g1]; simp⟩]
  rw [g1] at g2 g3 ⊢
  obtain ⟨w', k1, k2, k3, -⟩ := way_of he r a ⟨0, [a]⟩ isWay.nil (by simp [endW]) g2
  have k4 : endW w' = b := by rw [k3, ← h2]; unfold endW; rw [g1]
  have := le_cost (h3 w' k1 k4)
  rw [k2] at this
  have e0 : (⟨0, [a]⟩ : Wy).c = 0 := rfl
  rw [e0] at this
  omega

/-- No list of stations is cheaper than the best way. -/
theorem least_cost {l : List Ed} {z : List Int} {x : Option Wy} (hc : 0 ≤ wayC l z) (h1 : 1 ≤ z.headD 0) (h2 : z.headD 0 ≤ 9999) (hx : bw l (z.headD 0) (z.getLastD 0) x) : x.isSome = true ∧ cOf x ≤ wayC l z := by
  unfold wayC at hc ⊢
  by_cases hz : tarB l = true ∧ z ≠ []
  · rw [if_pos hz] at hc ⊢
    have he := (tar_is hz.1).2
    cases z with
    | nil => exact absurd rfl hz.2
    | cons a r =>
      have h1' : 1 ≤ a := h1
      have h2' : a ≤ 9999 := h2
      obtain ⟨w', k1, k2, k3, k4⟩ := way_of he r a ⟨0, [a]⟩ isWay.nil (by simp [endW]) hc
      have hend : 1 ≤ (a :: r).getLastD 0 ∧ (a :: r).getLastD 0 ≤ 9999 := by
        rw [← k3]
        cases r with
        | nil => rw [k3]; simp; omega
        | cons m r => exact k4 (by simp)
      have ha : askB l a ((a :: r).getLastD 0) = true := by
        unfold askB inB
        rw [hz.1, decide_eq_true h1', decide_eq_true h2', decide_eq_true hend.1, decide_eq_true hend.2]
        rfl
      cases x with
      | none =>
        rcases hx with h | h
        · have h' : askB l a ((a :: r).getLastD 0) = false := h
          rw [ha] at h'
          cases h'
        · exact (h w' k1 k3).elim
      | some m =>
        refine ⟨rfl, ?_⟩
        have := le_cost (hx.2.2.2 w' k1 k3)
        rw [k2] at this
        exact this
  · rw [if_neg hz] at hc
    omega

/-- An edge ahead of a way. -/
theorem way_cons {l : List Ed} {n m : Int} {e : Ed} (h1 : e ∈ l) (h2 : hasS e m = true) (h3 : oth e m = n) {w : Wy} (hw : isWay l n w) : ∃ w', isWay l m w' ∧ endW w' = endW w ∧ w'.c = w.c + e.co := by
  induction hw with
  | nil =>
    have hs := isWay.step (isWay.nil (E := l) (a := m)) h1 (show hasS e (endW ⟨0, [m]⟩) = true from h2)
    refine ⟨_, hs, ?_, ?_⟩
    · rw [end_ovr]
      show oth e m = _
      rw [h3]
      rfl
    · show (0 : Int) + e.co = 0 + e.co
      rfl
  | @step w f hw g1 g2 ih =>
    obtain ⟨w', k1, k2, k3⟩ := ih
    have hs := isWay.step k1 g1 (by rw [k2]; exact g2)
    refine ⟨_, hs, by rw [end_ovr, end_ovr, k2], ?_⟩
    show w'.c + f.co = w.c + f.co + e.co
    omega

theorem way_back {l : List Ed} (he : ∀ e ∈ l, edB e = true) {a : Int} {w : Wy} (hw : isWay l a w) : ∃ w', isWay l (endW w) w' ∧ endW w' = a ∧ w'.c = w.c := by
  induction hw with
  | nil => exact ⟨⟨0, [a]⟩, isWay.nil, rfl, rfl⟩
  | @step w e hw h1 h2 ih =>
    obtain ⟨w', k1, k2, k3⟩ := ih
    have hd := ed_is (he e h1)
    have h4 : hasS e (oth e (endW w)) = true ∧ oth e (oth e (endW w)) = endW w := by
      unfold hasS at h2 ⊢
      simp at h2
      unfold oth
      rcases h2 with h2 | h2
      · rw [if_pos h2]
        refine ⟨by simp, ?_⟩
        rw [if_neg hd.2.2.2.2.1, if_pos rfl, h2]
      · rw [if_neg (by omega : ¬ e.ea = endW w), if_pos h2]
        refine ⟨by simp, ?_⟩
        rw [if_pos rfl, h2]
    obtain ⟨v, g1, g2, g3⟩ := way_cons h1 h4.1 h4.2 k1
    refine ⟨v, by rw [end_ovr]; exact g1, g2.trans k2, ?_⟩
    show v.c = w.c + e.co
    omega

theorem way_join {l : List Ed} {a c : Int} {u w : Wy} (hu : isWay l a u) (hc : endW u = c) (hw : isWay l c w) : ∃ v, isWay l a v ∧ endW v = endW w ∧ v.c = u.c + w.c := by
  induction hw with
  | nil => exact ⟨u, hu, hc, by show u.c = u.c + 0; omega⟩
  | @step w e hw h1 h2 ih =>
    obtain ⟨v, k1, k2, k3⟩ := ih
    have hs := isWay.step k1 h1 (by rw [k2]; exact h2)
    refine ⟨_, hs, by rw [end_ovr, end_ovr, k2], ?_⟩
    show v.c + e.co = u.c + (w.c + e.co)
    omega

theorem ask_is {l : List Ed} {a b : Int} (h : askB l a b = true) : tarB l = true ∧ inB a 1 9999 = true ∧ inB b 1 9999 = true := by
  unfold askB at h
  simpa using h

theorem bw_back {l : List Ed} {a b : Int} {m : Wy} {y : Option Wy} (h : bw l a b (some m)) (k : bw l b a y) : cOf y = m.c := by
  obtain ⟨h1, h2, h3, h4⟩ := h
  obtain ⟨t1, t2, t3⟩ := ask_is h1
  have he := (tar_is t1).2
  obtain ⟨w', k1, k2, k3⟩ := way_back he h2
  rw [h3] at k1
  have ha : askB l b a = true := by unfold askB; rw [t1, t2, t3]; rfl
  cases y with
  | none =>
    rcases k with k | k
    · rw [ha] at k; cases k
    · exact (k w' k1 k2).elim
  | some n =>
    obtain ⟨-, g2, g3, g4⟩ := k
    have e1 := le_cost (g4 w' k1 k2)
    obtain ⟨v, v1, v2, v3⟩ := way_back he g2
    rw [g3] at v1
    have e2 := le_cost (h4 v v1 v2)
    show n.c = m.c
    omega

theorem bw_three {l : List Ed} {a b c : Int} {m p q : Wy} (h : bw l a b (some m)) (hp : bw l a c (some p)) (hq : bw l c b (some q)) : m.c ≤ p.c + q.c := by
  obtain ⟨v, k1, k2, k3⟩ := way_join hp.2.1 hp.2.2.1 hq.2.1
  have := le_cost (h.2.2.2 v k1 (k2.trans hq.2.2.1))
  omega

end Tf
end Go.Proofs.Ytmhongcbgokilad
